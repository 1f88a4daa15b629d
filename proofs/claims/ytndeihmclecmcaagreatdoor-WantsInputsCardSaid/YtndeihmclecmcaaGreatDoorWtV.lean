/- The law of counts: what its block comes to. -/
import Derived.Test.YtndeihmclecmcaaGreatDoorWtM
import Derived.Maps.RangeWalk
namespace Go.Proofs.YtndeihmclecmcaaGreatDoor
open Go.RowKit
set_option linter.unusedVariables false
set_option linter.unusedSimpArgs false
def nodeNames : List ByteArray := [kCount, kParent, kCpu, kMem, kPods]
abbrev Vals := List (ByteArray × VL) → List NodeL → VL × Int
def nodeStep (V : Vals) (pf : ByteArray) (b : BlkL) (ws : List WantL) : Int × List WantL :=
  if onlyB b.attrs nodeNames = false then (1, ws) else turnsR (V []) (fun nm hd ws => turnNode pf nm (V hd) b.attrs ws) pf b ws
/-- What is asked of a node's block ahead of its walk. -/
structure NodeOK (L : ByteArray → Option VL) (V : Vals) (b : BlkL) : Prop where
  few : b.attrs.length ≤ 1000
  size : ∀ a ∈ b.attrs, a.1.size ≤ 100000
  label : b.label.size ≤ 100000
  count : ∀ ns, attrL b.attrs kCount = some ns → Worth L [] ns (V [] ns) ∧ I64 (V [] ns).1.num
  worth : ∀ hd, (hd = [] ∨ ∃ i, i < 21 ∧ hd = idxB i) → ∀ a ∈ b.attrs, a.1 ≠ kCount → Worth L hd a.2 (V hd a.2) ∧ (V hd a.2).1.text.size ≤ 100000
/-- The worlds within an expansion: what was there stays, but what is declared. -/
def NI (B P gd beg : Nat) (wb : World) (ws : List WantL) (W : World) : Prop := Fr B none wb W ∧ WhAt B P gd W beg ws ∧ ws.length ≤ 120
theorem NI.bel {B P gd beg : Nat} {wb : World} (hB : B ≤ wb.heap.size) (ws : List WantL) (W W' : World) (h : NI B P gd beg wb ws W) (k : Below W.heap.size W W') : NI B P gd beg wb ws W' :=
  ⟨h.1.trans (Fr.of k (Nat.le_trans hB h.1.size)), h.2.1.below k, h.2.2⟩
/-- The ground that an expansion stands on: the world w0 ahead of it, the world wb at its beginning. -/
structure Base (w0 wb : World) (P gd p gi gn nn : Nat) (ps : List (Nat × ByteArray)) (ar : Value) (lb pf : ByteArray) (bv : Value) (L : ByteArray → Option VL) : Prop where
  low : Below w0.heap.size w0 wb
  tab : TabOK w0
  gr : Ground w0.heap.size P gd wb p gi gn nn ps ar lb pf bv L
theorem Base.at {w0 wb W : World} {P gd p gi gn nn : Nat} {ps : List (Nat × ByteArray)} {ar : Value} {lb pf : ByteArray} {bv : Value} {L : ByteArray → Option VL} (h : Base w0 wb P gd p gi gn nn ps ar lb pf bv L) (k : Fr w0.heap.size none wb W) : Ground w0.heap.size P gd W p gi gn nn ps ar lb pf bv L ∧ Below w0.heap.size w0 W :=
  have hl := h.low.trans k.low'
  ⟨h.gr.fr k (h.tab.below hl), hl⟩
theorem turnNode_len {pf nm : ByteArray} {V : List NodeL → VL × Int} {al : List (ByteArray × List NodeL)} {ws : List WantL} (h : ws.length ≤ 120) : (turnNode pf nm V al ws).2.length ≤ 120 := by
  unfold turnNode
  split
  · exact h
  · split
    · exact h
    · split
      · exact h
      · simp; omega
theorem nodeNames_rd {w : World} {g : Nat} (h : w.heap[g]? = some (.cells #[.string ⟨#[99, 111, 117, 110, 116]⟩, .string ⟨#[112, 97, 114, 101, 110, 116]⟩, .string ⟨#[99, 112, 117]⟩, .string ⟨#[109, 101, 109]⟩, .string ⟨#[112, 111, 100, 115]⟩] 9 (0, 0))) : TextsRd w (.slice (some ⟨g, 0, none⟩) 5 5) nodeNames := by
  refine ⟨g, 0, 5, rfl, fun i x hi => ?_⟩
  match i, hi with
  | 0, hi => cases hi; exact cell_of_row _ _ 0 _ _ _ h
  | 1, hi => cases hi; exact cell_of_row _ _ 1 _ _ _ h
  | 2, hi => cases hi; exact cell_of_row _ _ 2 _ _ _ h
  | 3, hi => cases hi; exact cell_of_row _ _ 3 _ _ _ h
  | 4, hi => cases hi; exact cell_of_row _ _ 4 _ _ _ h
  | n + 5, hi => simp [nodeNames] at hi
section
variable (w : World)
set_option maxHeartbeats 2000000 in
set_option maxRecDepth 20000 in
theorem pscopeNode (w0 wb : World) (P gd beg p gi gn nn d : Nat) (ps : List (Nat × ByteArray)) (ar : Value) (lb pf : ByteArray) (bv : Value) (L : ByteArray → Option VL) (hb : Base w0 wb P gd p gi gn nn ps ar lb pf bv L) (V : Vals) (b : BlkL) (hn : NodeOK L V b)
    (ato : Option Addr) (atc : Nat) (bo : Option Addr) (bc : Nat) (ha : AttrsRd w0 (.slice ato b.attrs.length atc) b.attrs) (ws : List WantL) (hI : NI w0.heap.size P gd beg wb ws w) :
    Calls Tryz.prog 36 #[.pointer (some ⟨p, 0, none⟩), blkV b ato atc bo bc] w fun e w' => e = .returned (.int .i64 (nodeStep V pf b ws).1) ∧ NI w0.heap.size P gd beg wb (nodeStep V pf b ws).2 w' := by
  have HI := Lib.hid hI
  have BB := Lib.hid hb
  have HN := Lib.hid hn
  have HA := Lib.hid ha
  have BX := Lib.hid (below_al (Below.refl w.heap.size w) (.cells #[.int .i64 b.kind, .string b.label, .slice ato b.attrs.length atc, .slice bo b.blocks.length bc] 30))
  have B0 := Lib.hid (below_al BX.out (.cells #[.string ⟨#[99, 111, 117, 110, 116]⟩, .string ⟨#[112, 97, 114, 101, 110, 116]⟩, .string ⟨#[99, 112, 117]⟩, .string ⟨#[109, 101, 109]⟩, .string ⟨#[112, 111, 100, 115]⟩] 9))
  have NB := Lib.hid ((heap_alloc_old (w.alloc (.cells #[.int .i64 b.kind, .string b.label, .slice ato b.attrs.length atc, .slice bo b.blocks.length bc] 30)) (.cells #[.string ⟨#[99, 111, 117, 110, 116]⟩, .string ⟨#[112, 97, 114, 101, 110, 116]⟩, .string ⟨#[99, 112, 117]⟩, .string ⟨#[109, 101, 109]⟩, .string ⟨#[112, 111, 100, 115]⟩] 9) (by simp)).trans (heap_alloc_new w (.cells #[.int .i64 b.kind, .string b.label, .slice ato b.attrs.length atc, .slice bo b.blocks.length bc] 30)))
  have TX := Lib.hid (nodeNames_rd (heap_at (w := w.alloc (.cells #[.int .i64 b.kind, .string b.label, .slice ato b.attrs.length atc, .slice bo b.blocks.length bc] 30)) (O := .cells #[.string ⟨#[99, 111, 117, 110, 116]⟩, .string ⟨#[112, 97, 114, 101, 110, 116]⟩, .string ⟨#[99, 112, 117]⟩, .string ⟨#[109, 101, 109]⟩, .string ⟨#[112, 111, 100, 115]⟩] 9) (g := w.heap.size + 1) (by simp)))
  have FE : ∀ a W, (callFunc 57 a).run Tryz.prog W = .ok (.enter 57 a) W := fun a W => run_enter Tryz.func57 (by kernel_rfl) (by kernel_rfl) a W
  have hB := hb.gr.base
  clear hb hn ha hI
  go_enter Tryz.func36, Tryz.ntmps36
  unfold blkV
  go_wp2_with fail
  generalize (w.alloc (.cells #[.int .i64 b.kind, .string b.label, .slice ato b.attrs.length atc, .slice bo b.blocks.length bc] 30)).alloc (.cells #[.string ⟨#[99, 111, 117, 110, 116]⟩, .string ⟨#[112, 97, 114, 101, 110, 116]⟩, .string ⟨#[99, 112, 117]⟩, .string ⟨#[109, 101, 109]⟩, .string ⟨#[112, 111, 100, 115]⟩] 9) = wa at *
  have IA := Lib.hid (NI.bel hB ws w wa HI.out B0.out)
  have PO := Lib.hid (ponly wa b ato atc bo bc (HA.out.below (BB.out.at IA.out.1).2) HN.out.few _ nodeNames TX.out (by decide))
  unfold blkV at PO
  refine PO.out.mono ?_
  rintro e w1 ⟨rfl, hb1⟩
  have I1 := Lib.hid (NI.bel hB ws wa w1 IA.out hb1)
  have NB1 := Lib.hid ((hb1.block _ (Array.getElem?_eq_some_iff.1 NB.out).1).trans NB.out)
  have e0 := cell_of_row _ _ 0 _ _ _ NB1.out
  have e1 := cell_of_row _ _ 1 _ _ _ NB1.out
  have e2 := cell_of_row _ _ 2 _ _ _ NB1.out
  have e3 := cell_of_row _ _ 3 _ _ _ NB1.out
  simp at e0 e1 e2 e3
  clear hb1 PO
  cases ho : onlyB b.attrs nodeNames with
  | false =>
    have E := Lib.hid (show nodeStep V pf b ws = (1, ws) by unfold nodeStep; rw [if_pos ho])
    clear ho
    go_wp2_with fail
    go_ret
    rw [E.out]
    exact ⟨rfl, I1.out⟩
  | true =>
    have E := Lib.hid (show nodeStep V pf b ws = turnsR (V []) (fun nm hd ws => turnNode pf nm (V hd) b.attrs ws) pf b ws by unfold nodeStep; rw [if_neg (by rw [ho]; simp)])
    clear ho
    have PT := Lib.hid (pturns w1 (fun nm hd ws => turnNode pf nm (V hd) b.attrs ws) (NI w0.heap.size P gd beg wb) d p gi gn nn ar lb pf bv L 57 FE w0
      (fun s W h => ⟨(BB.out.at h.1).1.sc, (BB.out.at h.1).1.names, (BB.out.at h.1).1.tab, (BB.out.at h.1).1.err, (BB.out.at h.1).2⟩) (fun s W W' h k => NI.bel hB s W W' h k) b ato atc bo bc HA.out HN.out.few HN.out.size (V []) w0.heap.size (fun ns h => HN.out.count ns h) BB.out.gr.pf HN.out.label
      (fun nm hd s W hv hh h hbd => (pturnNode W w0.heap.size P gd beg p gi gn nn ps ar lb pf bv L (BB.out.at h.1).1 s h.2.1 h.2.2 hv nm hd hbd b ato atc bo bc (HA.out.below (BB.out.at h.1).2) HN.out.few (V hd) (fun a ha hc => HN.out.worth hd hh a ha hc)).mono fun e W' k => ⟨k.1, ⟨h.1.trans k.2.1, k.2.2, turnNode_len h.2.2⟩, k.2.1⟩) ws I1.out)
    unfold blkV at PT
    go_wp2_with fail
    refine PT.out.mono ?_
    rintro e w2 ⟨rfl, h2⟩
    have I2 := Lib.hid h2
    clear h2 PT
    go_wp2_with fail
    go_ret
    rw [E.out]
    exact ⟨rfl, I2.out⟩
end
end Go.Proofs.YtndeihmclecmcaaGreatDoor
namespace Go.Proofs.YtndeihmclecmcaaGreatDoor
open Go.RowKit
set_option linter.unusedVariables false
set_option linter.unusedSimpArgs false
theorem eachR_none {σ : Type} {step : BlkL → σ → Int × σ} {kind : Int} : ∀ {l : List BlkL} {s : σ}, (∀ b ∈ l, b.kind ≠ kind) → eachR step kind l s = (0, s) := by
  intro l
  induction l with
  | nil => intro s _; rfl
  | cons b l ih => intro s h; rw [eachR_skip (h b (by simp))]; exact ih fun x hx => h x (List.mem_cons_of_mem _ hx)
section
variable (w : World)
theorem FEn : ∀ a W, (callFunc 36 a).run Tryz.prog W = .ok (.enter 36 a) W := fun a W => run_enter Tryz.func36 (by kernel_rfl) (by kernel_rfl) a W
theorem FEv : ∀ a W, (callFunc 33 a).run Tryz.prog W = .ok (.enter 33 a) W := fun a W => run_enter Tryz.func33 (by kernel_rfl) (by kernel_rfl) a W
theorem FEm : ∀ a W, (callFunc 37 a).run Tryz.prog W = .ok (.enter 37 a) W := fun a W => run_enter Tryz.func37 (by kernel_rfl) (by kernel_rfl) a W
set_option maxHeartbeats 1000000 in
set_option maxRecDepth 20000 in
theorem pnodes (w0 wb : World) (P gd beg p gi gn nn d : Nat) (ps : List (Nat × ByteArray)) (ar : Value) (lb pf : ByteArray) (bo0 : Option Addr) (bc0 : Nat) (l : List BlkL) (L : ByteArray → Option VL) (hb : Base w0 wb P gd p gi gn nn ps ar lb pf (.slice bo0 l.length bc0) L) (hrd : BlksRd (d + 1) w0 (.slice bo0 l.length bc0) l) (hl : l.length ≤ 1000) (V : Vals) (hn : ∀ b ∈ l, b.kind = 3 → NodeOK L V b)
    (ws : List WantL) (hI : NI w0.heap.size P gd beg wb ws w) :
    Calls Tryz.prog 25 #[.pointer (some ⟨p, 0, none⟩)] w fun e w' => e = .returned (.int .i64 (eachR (nodeStep V pf) 3 l ws).1) ∧ NI w0.heap.size P gd beg wb (eachR (nodeStep V pf) 3 l ws).2 w' := by
  have PE := Lib.hid (peach w (nodeStep V pf) (NI w0.heap.size P gd beg wb) 3 l d p gi gn ar lb pf bo0 bc0 36 FEn w0 hrd (fun s W h => ⟨(hb.at h.1).1.sc, (hb.at h.1).2⟩) (fun s W W' h k => NI.bel hb.gr.base s W W' h k) hl
    (fun b hm hk s W ato atc bo bc h ha hr => pscopeNode W w0 wb P gd beg p gi gn nn d ps ar lb pf (.slice bo0 l.length bc0) L hb V b (hn b hm hk) ato atc bo bc ha s h) ws hI)
  clear hb hrd hn hI
  go_enter Tryz.func25, Tryz.ntmps25
  go_wp2_with fail
  refine PE.out.mono ?_
  rintro e w1 ⟨rfl, h1⟩
  have H1 := Lib.hid h1
  clear h1 PE
  go_wp2_with fail
  go_ret
  exact ⟨rfl, H1.out⟩
set_option maxHeartbeats 1000000 in
set_option maxRecDepth 20000 in
/-- No modules: nothing. -/
theorem pmodules0 (p gi gn d : Nat) (ar : Value) (lb pf : ByteArray) (bo0 : Option Addr) (bc0 : Nat) (l : List BlkL) (w0 : World) (hsc : ScAt w p ar lb (.slice bo0 l.length bc0) pf gi gn) (hlow : Below w0.heap.size w0 w) (hrd : BlksRd (d + 1) w0 (.slice bo0 l.length bc0) l) (hl : l.length ≤ 1000) (hk : ∀ b ∈ l, b.kind ≠ 4) :
    Calls Tryz.prog 26 #[.pointer (some ⟨p, 0, none⟩)] w (Made (.int .i64 0) w) := by
  have PE := Lib.hid (peach w (fun _ (s : Unit) => (0, s)) (fun _ W => Below w.heap.size w W) 4 l d p gi gn ar lb pf bo0 bc0 37 FEm w0 hrd (fun s W h => ⟨hsc.below h, below_tr hlow (h.mono (Nat.le_refl _))⟩) (fun s W W' h k => below_tr h k) hl
    (fun b hm hk' => absurd hk' (hk b hm)) () (Below.refl _ _))
  rw [eachR_none hk] at PE
  clear hsc hrd hk hlow
  go_enter Tryz.func26, Tryz.ntmps26
  go_wp2_with fail
  refine PE.out.mono ?_
  rintro e w1 ⟨rfl, h1⟩
  go_wp2_with fail
  go_ret
  exact ⟨rfl, h1⟩
theorem str_inv {key : Value} {kl : Lit} (h : keyOf Tryz.prog 9 key = some kl) : ∃ x, key = .string x := by
  cases key <;> simp [keyOf, Tryz.underlying9, mapKey] at h
  exact ⟨_, rfl⟩
/-- A map of nothing. -/
def NoneAt (w : World) (g : Nat) : Prop := w.ownsMap Tryz.prog 9 heldV g 0 (.map [])
theorem NoneAt.new (w : World) : NoneAt (w.alloc (.map #[] 0)) w.heap.size := World.ownsMap_made w _ _ _
theorem NoneAt.scope {w : World} {g : Nat} (h : NoneAt w g) : ScopeAt w 0 g 0 (fun _ => none) := ⟨.map [], h, fun x => ⟨fun _ => ⟨rfl, rfl⟩, fun v h => by cases h⟩⟩
theorem NoneAt.below {w w' : World} {g : Nat} (h : NoneAt w g) (k : Below w.heap.size w w') : NoneAt w' g := by
  have hl := World.ownsMap.lt h
  obtain ⟨es, clock, hb, r⟩ := h
  exact ⟨es, clock, (k.block g hl).trans hb, r⟩
set_option maxHeartbeats 1000000 in
set_option maxRecDepth 20000 in
/-- No variables, no inputs: nothing. -/
theorem pvariables0 (p gi gn d : Nat) (ar : Value) (lb pf : ByteArray) (bo0 : Option Addr) (bc0 : Nat) (l : List BlkL) (w0 : World) (hsc : ScAt w p ar lb (.slice bo0 l.length bc0) pf gi gn) (hlow : Below w0.heap.size w0 w) (hrd : BlksRd (d + 1) w0 (.slice bo0 l.length bc0) l) (hl : l.length ≤ 1000) (hk : ∀ b ∈ l, b.kind ≠ 1) (hi : NoneAt w gi) :
    Calls Tryz.prog 23 #[.pointer (some ⟨p, 0, none⟩)] w (Made (.int .i64 0) w) := by
  have PE := Lib.hid (peach w (fun _ (s : Unit) => (0, s)) (fun _ W => Below w.heap.size w W) 1 l d p gi gn ar lb pf bo0 bc0 33 FEv w0 hrd (fun s W h => ⟨hsc.below h, below_tr hlow (h.mono (Nat.le_refl _))⟩) (fun s W W' h k => below_tr h k) hl
    (fun b hm hk' => absurd hk' (hk b hm)) () (Below.refl _ _))
  rw [eachR_none hk] at PE
  have SC := Lib.hid hsc
  have NI0 := Lib.hid hi
  clear hsc hrd hk hlow hi
  go_enter Tryz.func23, Tryz.ntmps23
  go_wp2_with fail
  refine PE.out.mono ?_
  rintro e w1 ⟨rfl, h1⟩
  have B1 := Lib.hid h1
  have c4 := (SC.out.below h1).cells.2.2.2.2.1
  have N1 := Lib.hid (NI0.out.below h1)
  clear h1 PE
  go_wp2_with (at_range; refine wpList_range_own _ rfl _ 69 rfl 9 39 strKeyed Tryz.underlying69 heldV gi 0 (.map []) rfl N1.out ?_; intro w2 hrg hg hs2)
  have B2 := Lib.hid (show Below w.heap.size w w2 from Below.grown B1.out hg B1.out.size (fun k hk => by cases hk))
  have HR := Lib.hid hrg
  clear hrg hg hs2 c4
  go_frame
  go_loopg [] 0 (fun m wr => w2 = wr)
  case atStart => rfl
  case round =>
    obtain rfl := hrel
    go_wp2_with (at_next; refine wpList_next_ranges (α := ByteArray) (β := Value) _ rfl _ rfl 9 strKeyed heldV .string id (fun key kl hk => str_inv hk) (fun v y _ => ⟨v, rfl⟩) gi w1.heap.size 0 (.map []) _ _ rfl HR.out (fun _ _ => ?_) (fun x c kl y w' cnt' _ hl _ _ _ _ _ _ _ => by cases hl))
    go_ret
    exact ⟨rfl, B2.out⟩
end
end Go.Proofs.YtndeihmclecmcaaGreatDoor
namespace Go.Proofs.YtndeihmclecmcaaGreatDoor
open Go.RowKit
set_option linter.unusedVariables false
set_option linter.unusedSimpArgs false
theorem info_intsW : (Tryz.prog.info? 33).map (fun i => (i.zero, i.size, i.bytes)) = some (some (.slice none 0 0), 1, 24) := by kernel_rfl
section
variable (w : World)
set_option maxRecDepth 20000 in
theorem pplaces0 (c : Nat) : Calls Tryz.prog 66 #[.slice none 0 c] w fun e w' => ∃ g, e = .returned (.tuple #[.map (some g), .int .i64 0]) ∧ Below w.heap.size w w' := by
  have BM := Lib.hid (show Below w.heap.size w (w.alloc (.map #[] 0)) from below_al (Below.refl _ _) _)
  have hmm := @run_makeMap Tryz.prog
  go_enter Tryz.func66, Tryz.ntmps66
  go_wp2_with fail
  go_loopg [12] 0 (fun m v wr => v = .int .i64 0 ∧ Hid (Below w.heap.size w wr))
  case atStart => exact ⟨rfl, BM⟩
  case round =>
    obtain ⟨rfl, B⟩ := hrel
    go_wp2_with fail
    exact bodyPost_ret (v := .tuple #[.map (some w.heap.size), .int .i64 0]) (by simp [results, Tryz.results66, go_sem]) rfl ⟨_, rfl, B.out⟩
set_option maxRecDepth 20000 in
theorem pindexTree0 (c : Nat) : Calls Tryz.prog 89 #[.slice none 0 c, .func (.func 68) #[] #[]] w (Made (.int .i64 (-1)) w) := by
  go_enter Tryz.func89, Tryz.ntmps89
  go_wp2_with fail
  go_loopg [8] 0 (fun m v wr => v = .int .i64 0 ∧ Hid (Below w.heap.size w wr))
  case atStart => exact ⟨rfl, Lib.hid (Below.refl _ _)⟩
  case round =>
    obtain ⟨rfl, B⟩ := hrel
    go_wp2_with fail
    go_ret
    exact ⟨rfl, B.out⟩
set_option maxRecDepth 20000 in
theorem pcontains0 (c : Nat) : Calls Tryz.prog 67 #[.slice none 0 c, .func (.func 68) #[] #[]] w (Made (.bool false) w) := by
  have C := Lib.hid (pindexTree0 w c)
  go_enter Tryz.func67, Tryz.ntmps67
  go_wp2_with fail
  refine C.out.mono ?_
  rintro e w1 ⟨rfl, hb1⟩
  go_wp2_with fail
  go_ret
  exact ⟨rfl, hb1⟩
/-- A row of nothing at block b. -/
def Row0 (w : World) (b : Nat) : Prop := ∃ wo wc bo bc, w.heap[b]? = some (.cells #[.slice none 0 0, .slice wo 0 wc, .slice bo 0 bc] 173 (0, 0))
set_option maxHeartbeats 1000000 in
set_option maxRecDepth 20000 in
theorem pnewRow0 : Calls Tryz.prog 90 #[.int .i64 0] w fun e w' => ∃ b, e = .returned (.pointer (some ⟨b, 0, none⟩)) ∧ Below w.heap.size w w' ∧ Row0 w' b := by
  have hm1 : ∀ W : World, (Instr.makeSlice 33 (.int .i64 0) (.int .i64 0)).run Tryz.prog W = .ok (.slice (some ⟨W.heap.size, 0, none⟩) 0 0) (W.alloc (.cells (madeCells #[.int .i64 0] 0) 3)) := fun W => by
    obtain ⟨i0, hi0, hz0, hz1, hz2⟩ := info_parts info_int
    have := run_make (P := Tryz.prog) W 33 3 i0 (.int .i64 0) Tryz.underlying33 hi0 hz0 .i64 .i64 0 0 (by omega) (Int.le_refl _) (by rw [hz2]; omega) (by omega)
    rw [hz1] at this
    exact this
  have hm2 : ∀ W : World, (Instr.makeSlice 171 (.int .i64 0) (.int .i64 0)).run Tryz.prog W = .ok (.slice (some ⟨W.heap.size, 0, none⟩) 0 0) (W.alloc (.cells (madeCells #[.slice none 0 0] 0) 33)) := fun W => by
    obtain ⟨i0, hi0, hz0, hz1, hz2⟩ := info_parts info_intsW
    have := run_make (P := Tryz.prog) W 171 33 i0 (.slice none 0 0) Tryz.underlying171 hi0 hz0 .i64 .i64 0 0 (by omega) (Int.le_refl _) (by rw [hz2]; omega) (by omega)
    rw [hz1] at this
    exact this
  go_enter Tryz.func90, Tryz.ntmps90
  go_wp2_with fail
  go_region_with fail
  all_goals go_wp2
  all_goals go_ret
  all_goals exact ⟨w.heap.size + 1 + 1, rfl, below_drew (below_al (below_al (below_al (Below.refl _ _) _) _) _), _, _, _, _, heap_at (by simp)⟩
theorem Row0.below {w w' : World} {b : Nat} (h : Row0 w b) (k : Below w.heap.size w w') : Row0 w' b := by
  obtain ⟨wo, wc, bo, bc, h⟩ := h
  exact ⟨wo, wc, bo, bc, (k.block b (Array.getElem?_eq_some_iff.1 h).1).trans h⟩
set_option maxRecDepth 20000 in
theorem prowOf0 (c g : Nat) : Calls Tryz.prog 69 #[.slice none 0 c, .map (some g)] w fun e w' => ∃ b, e = .returned (.tuple #[.pointer (some ⟨b, 0, none⟩), .int .i64 0]) ∧ Below w.heap.size w w' ∧ Row0 w' b := by
  have PN := Lib.hid (pnewRow0 w)
  go_enter Tryz.func69, Tryz.ntmps69
  go_wp2_with fail
  refine PN.out.mono ?_
  rintro e w1 ⟨b, rfl, hb1, h1⟩
  have B1 := Lib.hid hb1
  have R1 := Lib.hid h1
  clear hb1 h1
  go_wp2_with fail
  go_loopg [20] 0 (fun m v wr => v = .int .i64 0 ∧ Hid (Below w.heap.size w wr) ∧ Hid (Row0 wr b))
  case atStart => exact ⟨rfl, B1, R1⟩
  case round =>
    obtain ⟨rfl, B, R⟩ := hrel
    go_wp2_with fail
    exact bodyPost_ret (v := .tuple #[.pointer (some ⟨b, 0, none⟩), .int .i64 0]) (by simp [results, Tryz.results69, go_sem]) rfl ⟨_, rfl, B.out, R.out⟩
theorem plenW (ao : Option Addr) (m cap : Nat) : Calls Tryz.prog 95 #[.slice ao m cap] w fun e w' => e = .returned (.int .i64 (m : Int)) ∧ w = w' := by
  go_enter Tryz.func95, Tryz.ntmps95
  go_wp2_with fail
  go_ret
  exact ⟨rfl, rfl⟩
set_option maxRecDepth 20000 in
theorem porder0 (b : Nat) (h : Row0 w b) : Calls Tryz.prog 70 #[.pointer (some ⟨b, 0, none⟩)] w fun e w' => e = .returned (.slice none 0 0) ∧ w = w' := by
  obtain ⟨wo, wc, bo, bc, h⟩ := h
  have c0 := cell_of_row _ _ 0 _ _ _ h
  have c1 := cell_of_row _ _ 1 _ _ _ h
  have c2 := cell_of_row _ _ 2 _ _ _ h
  simp at c0 c1 c2
  clear h
  go_enter Tryz.func70, Tryz.ntmps70
  go_wp2_with fail
  go_loopg [14] 0 (fun m v wr => v = .int .i64 0 ∧ w = wr)
  case atStart => exact ⟨rfl, rfl⟩
  case round =>
    obtain ⟨rfl, rfl⟩ := hrel
    go_wp2_with fail
    go_loopg [3] 0 (fun m v wr => v = .slice none 0 0 ∧ w = wr)
    case atStart => exact ⟨rfl, rfl⟩
    case round =>
      obtain ⟨rfl, rfl⟩ := hrel
      go_wp2_with fail
      refine (plenW w _ _ _).mono ?_
      rintro e w1 ⟨rfl, rfl⟩
      go_wp2_with fail
      go_ret
      exact ⟨rfl, rfl⟩
set_option maxRecDepth 20000 in
theorem pOrder0 (c : Nat) : Calls Tryz.prog 53 #[.slice none 0 c] w (Made (.tuple #[.slice none 0 0, .int .i64 0]) w) := by
  have PP := Lib.hid (pplaces0 w c)
  go_enter Tryz.func53, Tryz.ntmps53
  go_wp2_with fail
  refine PP.out.mono ?_
  rintro e w1 ⟨g, rfl, hb1⟩
  have B1 := Lib.hid hb1
  clear hb1
  go_wp2_with fail
  refine (pcontains0 w1 c).mono ?_
  rintro e w2 ⟨rfl, hb2⟩
  have B2 := Lib.hid (below_tr B1.out hb2)
  clear hb2
  go_wp2_with fail
  refine (prowOf0 w2 c g).mono ?_
  rintro e w3 ⟨b, rfl, hb3, h3⟩
  have B3 := Lib.hid (below_tr B2.out hb3)
  have R3 := Lib.hid h3
  clear hb3 h3
  go_wp2_with fail
  refine (porder0 w3 b R3.out).mono ?_
  rintro e w4 ⟨rfl, rfl⟩
  go_wp2_with fail
  exact bodyPost_ret (v := .tuple #[.slice none 0 0, .int .i64 0]) (by simp [results, Tryz.results53, go_sem]) rfl ⟨rfl, B3.out⟩
set_option maxRecDepth 20000 in
theorem pLocals0 (c c2 : Nat) : Calls Tryz.prog 35 #[.slice none 0 c, .slice none 0 c2] w fun e w' => ∃ ao, e = .returned (.tuple #[.slice ao 0 0, .int .i64 0]) ∧ Below w.heap.size w w' := by
  have PO := Lib.hid (pOrder0 w c)
  have hm1 : ∀ W : World, (Instr.makeSlice 36 (.int .i64 0) (.int .i64 0)).run Tryz.prog W = .ok (.slice (some ⟨W.heap.size, 0, none⟩) 0 0) (W.alloc (.cells (madeCells (#[.string ⟨#[]⟩, .int .i64 0, .int .i64 0, .string ⟨#[]⟩, .slice none 0 0] : Array Value) 0) 41)) := fun W => by
    obtain ⟨i0, hi0, hz0, hz1, hz2⟩ := info_parts info_bindW
    have := run_make (P := Tryz.prog) W 36 41 i0 _ Tryz.underlying36 hi0 hz0 .i64 .i64 0 0 (by omega) (Int.le_refl _) (by rw [hz2]; omega) (by omega)
    rw [hz1] at this
    exact this
  go_enter Tryz.func35, Tryz.ntmps35
  go_wp2_with fail
  refine PO.out.mono ?_
  rintro e w1 ⟨rfl, hb1⟩
  have B1 := Lib.hid hb1
  clear hb1
  go_wp2_with fail
  refine (pscope w1 0 _ [] (binds_nil _ _ _ _) (Nat.zero_le _) (fun b hb => by cases hb)).mono ?_
  rintro e w2 ⟨rfl, hb2, -⟩
  have B2 := Lib.hid (below_tr B1.out hb2)
  clear hb2
  go_wp2_with fail
  go_loopg [30] 0 (fun m v wr => v = .int .i64 0 ∧ Hid (Below w.heap.size w wr))
  case atStart => exact ⟨rfl, Lib.hid (below_al B2.out _)⟩
  case round =>
    obtain ⟨rfl, B⟩ := hrel
    go_wp2_with fail
    exact bodyPost_ret (v := .tuple #[.slice (some ⟨w2.heap.size, 0, none⟩) 0 0, .int .i64 0]) (by simp [results, Tryz.results35, go_sem]) rfl ⟨_, rfl, B.out⟩
end
end Go.Proofs.YtndeihmclecmcaaGreatDoor
namespace Go.Proofs.YtndeihmclecmcaaGreatDoor
open Go.RowKit
set_option linter.unusedVariables false
set_option linter.unusedSimpArgs false
section
variable (w : World)
set_option maxHeartbeats 1000000 in
set_option maxRecDepth 20000 in
theorem plocals0 (p gi gn d : Nat) (ar : Value) (lb pf : ByteArray) (bo0 : Option Addr) (bc0 : Nat) (l : List BlkL) (w0 : World) (hsc : ScAt w p ar lb (.slice bo0 l.length bc0) pf gi gn) (hlow : Below w0.heap.size w0 w) (hrd : BlksRd (d + 1) w0 (.slice bo0 l.length bc0) l) (hl : l.length ≤ 1000) (hk : ∀ b ∈ l, b.kind ≠ 2) :
    Calls Tryz.prog 24 #[.pointer (some ⟨p, 0, none⟩)] w (Made (.int .i64 0) w) := by
  have SC := Lib.hid hsc
  have RD := Lib.hid hrd
  have LO := Lib.hid hlow
  have HK := Lib.hid hk
  have c2 := hsc.cells.2.2.1
  clear hsc hlow hrd hk
  go_enter Tryz.func24, Tryz.ntmps24
  go_wp2_with fail
  go_loopg [3, 18] l.length (fun m av v wr => ∃ j : Nat, av = .slice none 0 0 ∧ v = .int .i64 j ∧ l.length - j ≤ m ∧ j ≤ l.length ∧ Hid (Below w.heap.size w wr))
  case atStart => exact ⟨0, rfl, rfl, Nat.le_refl _, Nat.zero_le _, Lib.hid (Below.refl _ _)⟩
  case round =>
    obtain ⟨j, rfl, rfl, hm, hj, B⟩ := hrel
    have HM := Lib.hid hm
    clear hm
    by_cases hjl : j < l.length
    · obtain ⟨b, hb⟩ : ∃ b, l[j]? = some b := ⟨_, List.getElem?_eq_getElem hjl⟩
      have gk : (b.kind == 2) = false := by simpa using HK.out b (List.mem_of_getElem? hb)
      obtain ⟨ao2, cap2, e2, hat⟩ := RD.out
      simp at e2
      obtain ⟨rfl, rfl⟩ := e2
      obtain ⟨g, o, ato, atc, bo, bc, rfl, c0, c1, c2', c3, -, -⟩ := hat j b hb
      have BW := Lib.hid (below_tr LO.out (B.out.mono (Nat.le_refl _)))
      replace c0 := hold BW.out c0
      replace c1 := hold BW.out c1
      replace c2' := hold BW.out c2'
      replace c3 := hold BW.out c3
      have B1 := Lib.hid (below_al B.out (.cells #[.int .i64 b.kind, .string b.label, .slice ato b.attrs.length atc, .slice bo b.blocks.length bc] 30))
      clear hat hb
      go_wp2_with fail
      go_roundg (l.length - (j + 1))
      case rel => exact ⟨j + 1, rfl, rfl, Nat.le_refl _, hjl, B1⟩
      case measure => have := HM.out; omega
    · have hz : j = l.length := by omega
      subst hz
      go_wp2_with fail
      go_loopg [6, 32] 0 (fun m av v wx => av = .slice none 0 0 ∧ v = .int .i64 0 ∧ Hid (Below w.heap.size w wx))
      case atStart => exact ⟨rfl, rfl, B⟩
      case round =>
        obtain ⟨rfl, rfl, B5⟩ := hrel
        go_wp2_with fail
        refine (pLocals0 wr 0 0).mono ?_
        rintro e w6 ⟨ao, rfl, hb6⟩
        have B6 := Lib.hid (below_tr B5.out hb6)
        clear hb6
        go_wp2_with fail
        go_loopg [54] 0 (fun m v wx => v = .int .i64 0 ∧ Hid (Below w.heap.size w wx))
        case atStart => exact ⟨rfl, B6⟩
        case round =>
          obtain ⟨rfl, B7⟩ := hrel
          go_wp2_with fail
          go_ret
          exact ⟨rfl, B7.out⟩
theorem FEpl : ∀ a W, (callFunc 24 a).run Tryz.prog W = .ok (.enter 24 a) W := fun a W => run_enter Tryz.func24 (by kernel_rfl) (by kernel_rfl) a W
theorem FEpn : ∀ a W, (callFunc 25 a).run Tryz.prog W = .ok (.enter 25 a) W := fun a W => run_enter Tryz.func25 (by kernel_rfl) (by kernel_rfl) a W
theorem FEpm : ∀ a W, (callFunc 26 a).run Tryz.prog W = .ok (.enter 26 a) W := fun a W => run_enter Tryz.func26 (by kernel_rfl) (by kernel_rfl) a W
theorem FEpv : ∀ a W, (callFunc 23 a).run Tryz.prog W = .ok (.enter 23 a) W := fun a W => run_enter Tryz.func23 (by kernel_rfl) (by kernel_rfl) a W
set_option maxHeartbeats 1000000 in
set_option maxRecDepth 20000 in
/-- A scope of nodes (and defines) alone. -/
theorem pexpand0 (w0 : World) (P gd beg p gi gn nn d : Nat) (ps : List (Nat × ByteArray)) (ar : Value) (lb pf : ByteArray) (bo0 : Option Addr) (bc0 : Nat) (l : List BlkL) (L : ByteArray → Option VL) (hb : Base w0 w P gd p gi gn nn ps ar lb pf (.slice bo0 l.length bc0) L) (hrd : BlksRd (d + 1) w0 (.slice bo0 l.length bc0) l) (hl : l.length ≤ 1000) (V : Vals) (hn : ∀ b ∈ l, b.kind = 3 → NodeOK L V b)
    (hk : ∀ b ∈ l, b.kind ≠ 1 ∧ b.kind ≠ 2 ∧ b.kind ≠ 4) (hi : NoneAt w gi) (ws : List WantL) (hw : WhAt w0.heap.size P gd w beg ws) (hwl : ws.length ≤ 120) :
    Calls Tryz.prog 19 #[.pointer (some ⟨p, 0, none⟩)] w fun e w' => e = .returned (.int .i64 (eachR (nodeStep V pf) 3 l ws).1) ∧ NI w0.heap.size P gd beg w (eachR (nodeStep V pf) 3 l ws).2 w' := by
  have BB := Lib.hid hb
  have RD := Lib.hid hrd
  have HN := Lib.hid hn
  have HK := Lib.hid hk
  have N0 := Lib.hid hi
  have I0 := Lib.hid (show NI w0.heap.size P gd beg w ws w from ⟨Fr.refl _ _ _, hw, hwl⟩)
  clear hb hrd hn hk hi hw
  go_enter Tryz.func19, Tryz.ntmps19
  go_wp2_with fail
  have BA := Lib.hid (below_al (Below.refl w.heap.size w) (.cells #[.func (.func 23) #[.pointer (some ⟨p, 0, none⟩)] #[], .func (.func 24) #[.pointer (some ⟨p, 0, none⟩)] #[], .func (.func 25) #[.pointer (some ⟨p, 0, none⟩)] #[], .func (.func 26) #[.pointer (some ⟨p, 0, none⟩)] #[]] 75))
  have AF := Lib.hid (heap_alloc_new w (.cells #[.func (.func 23) #[.pointer (some ⟨p, 0, none⟩)] #[], .func (.func 24) #[.pointer (some ⟨p, 0, none⟩)] #[], .func (.func 25) #[.pointer (some ⟨p, 0, none⟩)] #[], .func (.func 26) #[.pointer (some ⟨p, 0, none⟩)] #[]] 75))
  generalize w.alloc (.cells #[.func (.func 23) #[.pointer (some ⟨p, 0, none⟩)] #[], .func (.func 24) #[.pointer (some ⟨p, 0, none⟩)] #[], .func (.func 25) #[.pointer (some ⟨p, 0, none⟩)] #[], .func (.func 26) #[.pointer (some ⟨p, 0, none⟩)] #[]] 75) = wa at *
  have Ba := Lib.hid (show Base w0 wa P gd p gi gn nn ps ar lb pf (.slice bo0 l.length bc0) L from ⟨BB.out.low.trans (BA.out.mono BB.out.low.size), BB.out.tab, BB.out.gr.fr (Fr.of BA.out BB.out.gr.base) (BB.out.gr.tab.below BA.out)⟩)
  have Ia := Lib.hid (show NI w0.heap.size P gd beg wa ws wa from ⟨Fr.refl _ _ _, I0.out.2.1.below BA.out, I0.out.2.2⟩)
  have FE1 := FEpv
  have FE2 := FEpl
  have FE3 := FEpn
  have FE4 := FEpm
  go_loopg [16] 4 (fun m v wr => ∃ j : Nat, v = .int .i64 j ∧ 4 - j ≤ m ∧ j ≤ 4 ∧ Hid (wr.heap[w.heap.size]? = some (.cells #[.func (.func 23) #[.pointer (some ⟨p, 0, none⟩)] #[], .func (.func 24) #[.pointer (some ⟨p, 0, none⟩)] #[], .func (.func 25) #[.pointer (some ⟨p, 0, none⟩)] #[], .func (.func 26) #[.pointer (some ⟨p, 0, none⟩)] #[]] 75 (0, 0))) ∧ Hid (j ≤ 2 ∧ Below wa.heap.size wa wr ∨ 3 ≤ j ∧ (eachR (nodeStep V pf) 3 l ws).1 = 0 ∧ NI w0.heap.size P gd beg wa (eachR (nodeStep V pf) 3 l ws).2 wr))
  case atStart => exact ⟨0, rfl, Nat.le_refl _, Nat.zero_le _, AF, Lib.hid (.inl ⟨by omega, Below.refl _ _⟩)⟩
  case round =>
    obtain ⟨j, rfl, hm, hj, AR, ST⟩ := hrel
    have HM := Lib.hid hm
    have a0 := cell_of_row _ _ 0 _ _ _ AR.out
    have a1 := cell_of_row _ _ 1 _ _ _ AR.out
    have a2 := cell_of_row _ _ 2 _ _ _ AR.out
    have a3 := cell_of_row _ _ 3 _ _ _ AR.out
    simp at a0 a1 a2 a3
    clear hm
    have h5 : j = 0 ∨ j = 1 ∨ j = 2 ∨ j = 3 ∨ j = 4 := by omega
    rcases h5 with rfl | rfl | rfl | rfl | rfl
    · obtain ⟨-, hb⟩ | ⟨h3, -⟩ := ST.out
      · have B := Lib.hid hb
        have S := Lib.hid (Ba.out.gr.sc.below hb)
        have PP := Lib.hid (pvariables0 wr p gi gn d ar lb pf bo0 bc0 l w0 S.out (Below.trans Ba.out.low (hb.mono Ba.out.low.size)) RD.out hl (fun b h => (HK.out b h).1) ((N0.out.below BA.out).below hb))
        clear hb
        go_wp2_with fail
        refine PP.out.mono ?_
        rintro e w1 ⟨rfl, hb1⟩
        have B1 := Lib.hid (below_tr B.out hb1)
        have A1 := Lib.hid ((hb1.block _ (Array.getElem?_eq_some_iff.1 AR.out).1).trans AR.out)
        clear hb1
        go_wp2_with fail
        go_roundg 3
        case rel => exact ⟨1, rfl, Nat.le_refl _, by omega, A1, Lib.hid (.inl ⟨by omega, B1.out⟩)⟩
        case measure => have := HM.out; omega
      · omega
    · obtain ⟨-, hb⟩ | ⟨h3, -⟩ := ST.out
      · have B := Lib.hid hb
        have S := Lib.hid (Ba.out.gr.sc.below hb)
        have PP := Lib.hid (plocals0 wr p gi gn d ar lb pf bo0 bc0 l w0 S.out (Below.trans Ba.out.low (hb.mono Ba.out.low.size)) RD.out hl (fun b h => (HK.out b h).2.1))
        clear hb
        go_wp2_with fail
        refine PP.out.mono ?_
        rintro e w1 ⟨rfl, hb1⟩
        have B1 := Lib.hid (below_tr B.out hb1)
        have A1 := Lib.hid ((hb1.block _ (Array.getElem?_eq_some_iff.1 AR.out).1).trans AR.out)
        clear hb1
        go_wp2_with fail
        go_roundg 2
        case rel => exact ⟨2, rfl, Nat.le_refl _, by omega, A1, Lib.hid (.inl ⟨by omega, B1.out⟩)⟩
        case measure => have := HM.out; omega
      · omega
    · obtain ⟨-, hb⟩ | ⟨h3, -⟩ := ST.out
      · have NIr := Lib.hid (NI.bel Ba.out.gr.base ws wa wr Ia.out hb)
        have PP := Lib.hid (pnodes wr w0 wa P gd beg p gi gn nn d ps ar lb pf bo0 bc0 l L Ba.out RD.out hl V HN.out ws NIr.out)
        clear hb
        go_wp2_with fail
        refine PP.out.mono ?_
        rintro e w1 ⟨rfl, h1⟩
        have A1 := Lib.hid ((h1.1.block _ (Array.getElem?_eq_some_iff.1 AF.out).1 (by simp) (fun c t f hc => by
          rw [AF.out] at hc
          simp only [Option.some.injEq, Obj.cells.injEq] at hc
          obtain ⟨-, rfl, -⟩ := hc
          exact ⟨by decide, by decide⟩)).trans AF.out)
        have I1 := Lib.hid h1
        clear h1
        by_cases he : (eachR (nodeStep V pf) 3 l ws).1 = 0
        · have ge : ((eachR (nodeStep V pf) 3 l ws).1 != 0) = false := by simpa using he
          have HE := Lib.hid he
          clear he
          go_wp2_with fail
          go_roundg 1
          case rel => exact ⟨3, rfl, Nat.le_refl _, by omega, A1, Lib.hid (.inr ⟨by omega, HE.out, I1.out⟩)⟩
          case measure => have := HM.out; omega
        · have ge : ((eachR (nodeStep V pf) 3 l ws).1 != 0) = true := by simpa using he
          clear he
          go_wp2_with fail
          go_ret
          exact ⟨rfl, (Fr.of BA.out BB.out.gr.base).trans I1.out.1, I1.out.2⟩
      · omega
    · obtain ⟨h3, -⟩ | ⟨-, he, hn⟩ := ST.out
      · omega
      · have HE := Lib.hid he
        have I3 := Lib.hid hn
        have S := Lib.hid (Ba.out.at hn.1)
        have PP := Lib.hid (pmodules0 wr p gi gn d ar lb pf bo0 bc0 l w0 S.out.1.sc S.out.2 RD.out hl (fun b h => (HK.out b h).2.2))
        clear he hn
        go_wp2_with fail
        refine PP.out.mono ?_
        rintro e w1 ⟨rfl, hb1⟩
        have A1 := Lib.hid ((hb1.block _ (Array.getElem?_eq_some_iff.1 AR.out).1).trans AR.out)
        have I1 := Lib.hid (NI.bel Ba.out.gr.base _ _ _ I3.out hb1)
        clear hb1
        go_wp2_with fail
        go_roundg 0
        case rel => exact ⟨4, rfl, Nat.le_refl _, by omega, A1, Lib.hid (.inr ⟨by omega, HE.out, I1.out⟩)⟩
        case measure => have := HM.out; omega
    · obtain ⟨h3, -⟩ | ⟨-, he, hn⟩ := ST.out
      · omega
      · have HE := Lib.hid he
        have I3 := Lib.hid hn
        clear he hn
        go_wp2_with fail
        go_ret
        rw [HE.out]
        exact ⟨rfl, (Fr.of BA.out BB.out.gr.base).trans I3.out.1, I3.out.2⟩
end
end Go.Proofs.YtndeihmclecmcaaGreatDoor
namespace Go.Proofs.YtndeihmclecmcaaGreatDoor
open Go.RowKit
set_option linter.unusedVariables false
set_option linter.unusedSimpArgs false
theorem zeroBlock_run (w : World) : (zeroValue 30).run Tryz.prog w = .ok (.agg #[.int .i64 0, .string ⟨#[]⟩, .slice none 0 0, .slice none 0 0]) w := by kernel_rfl
section
variable {P : Program} (w : World) {ops : Array Oper} {rest : List Oper} {o : Oper} {a : Act} {Q : Exit → Act → World → Prop}
/-- A lookup in a map of no blocks. -/
theorem wpList_lookup_none (hg : o.guard = none) (m x : Operand) (hop : o.op = Op.lookup 76 m x true)
    (b : Nat) (hm : a.eval m = .map (some b)) (hown : NoneAt w b) (s : ByteArray) (hx : a.eval x = .string s) (hs : s.size ≤ maxLen)
    (hK : wpList Tryz.prog ops Q rest (a.put o.dst (.tuple #[.agg #[.int .i64 0, .string ⟨#[]⟩, .slice none 0 0, .slice none 0 0], .bool false])) w) :
    wpList Tryz.prog ops Q (o :: rest) a w :=
  wpList_lookup_own_ok w hg m x 76 hop 9 30 strKeyed Tryz.underlying76 heldV (zeroBlock_run w) (.held (.agg #[.int .i64 0, .string ⟨#[]⟩, .slice none 0 0, .slice none 0 0])) [] rfl b 0 (.map []) hm hown (.string s) (keyLit s) hx (Go.WideMaps.keyOf_string_mk Tryz.underlying9 hs) (fun u ps hu => by
    have e : (DataW.map (H := Value) []).atKey (keyLit s) (.held (.agg #[.int .i64 0, .string ⟨#[]⟩, .slice none 0 0, .slice none 0 0])) = .held (.agg #[.int .i64 0, .string ⟨#[]⟩, .slice none 0 0, .slice none 0 0]) := rfl
    rw [e] at hu
    simp only [heldV, Option.some.injEq, Prod.mk.injEq, DataW.held.injEq] at hu
    rw [hu.1, show Maps.has (DataW.map (H := Value) []) (keyLit s) = false from rfl]
    exact hK)
end
theorem look_none {W : World} {b : Nat} (h : NoneAt W b) {s : ByteArray} (hs : s.size ≤ maxLen) : (Instr.lookup 76 (.map (some b)) (.string s) true).run Tryz.prog W = .ok (.tuple #[.agg #[.int .i64 0, .string ⟨#[]⟩, .slice none 0 0, .slice none 0 0], .bool false]) W := by
  obtain ⟨v, ps, hrun, hv⟩ := World.ownsMap.look_ok h strKeyed Tryz.underlying76 (zeroBlock_run W) (R := heldV) (zd := .held (.agg #[.int .i64 0, .string ⟨#[]⟩, .slice none 0 0, .slice none 0 0])) (zp := []) rfl (Go.WideMaps.keyOf_string_mk Tryz.underlying9 hs)
  have e : (DataW.map (H := Value) []).atKey (Lit.string s.data.toList) (.held (.agg #[.int .i64 0, .string ⟨#[]⟩, .slice none 0 0, .slice none 0 0])) = .held (.agg #[.int .i64 0, .string ⟨#[]⟩, .slice none 0 0, .slice none 0 0]) := rfl
  rw [e] at hv
  simp only [heldV, Option.some.injEq, Prod.mk.injEq, DataW.held.injEq] at hv
  rw [hv.1] at hrun
  exact hrun
section
variable (w : World)
set_option maxRecDepth 20000 in
theorem pallMay0 (c : Nat) : Calls Tryz.prog 16 #[.slice none 0 c] w (Made (.bool true) w) := by
  go_enter Tryz.func16, Tryz.ntmps16
  go_wp2_with fail
  go_loopg [7] 0 (fun m v wr => v = .int .i64 0 ∧ Hid (Below w.heap.size w wr))
  case atStart => exact ⟨rfl, Lib.hid (Below.refl _ _)⟩
  case round =>
    obtain ⟨rfl, B⟩ := hrel
    go_wp2_with fail
    go_ret
    exact ⟨rfl, B.out⟩
set_option maxRecDepth 20000 in
theorem pnamesOf0 (c : Nat) : Calls Tryz.prog 18 #[.slice none 0 c] w fun e w' => e = .returned (.map (some w.heap.size)) ∧ Below w.heap.size w w' ∧ NoneAt w' w.heap.size := by
  have BM := Lib.hid (show Below w.heap.size w (w.alloc (.map #[] 0)) from below_al (Below.refl _ _) _)
  have NM := Lib.hid (NoneAt.new w)
  have hmm := @run_makeMap Tryz.prog
  go_enter Tryz.func18, Tryz.ntmps18
  go_wp2_with fail
  go_loopg [9] 0 (fun m v wr => v = .int .i64 0 ∧ Hid (Below w.heap.size w wr) ∧ Hid (NoneAt wr w.heap.size))
  case atStart => exact ⟨rfl, BM, NM⟩
  case round =>
    obtain ⟨rfl, B, N⟩ := hrel
    go_wp2_with fail
    go_ret
    exact ⟨rfl, B.out, N.out⟩
set_option maxHeartbeats 1000000 in
set_option maxRecDepth 20000 in
/-- No defines. -/
theorem pnewWhole0 (d : Nat) (bv : Value) (l : List BlkL) (hrd : BlksRd (d + 1) w bv l) (hl : l.length ≤ 1000) (hs : ∀ b ∈ l, b.kind ≠ 5 ∧ b.label.size ≤ 100000) :
    Calls Tryz.prog 17 #[bv] w fun e w' => ∃ P gd, e = .returned (.pointer (some ⟨P, 0, none⟩)) ∧ Below w.heap.size w w' ∧ WhAt w.heap.size P gd w' 0 [] ∧ NoneAt w' gd ∧ w.heap.size ≤ gd := by
  have RD := Lib.hid hrd
  have HS := Lib.hid hs
  obtain ⟨ao, cap, rfl, -⟩ := hrd
  have B0 := Lib.hid (below_al (below_al (Below.refl w.heap.size w) (.map #[] 0)) (.cells #[.map (some w.heap.size), .int .i64 0, .slice none 0 0] 78))
  have N0 := Lib.hid ((NoneAt.new w).below (below_al (Below.refl _ _) (.cells #[.map (some w.heap.size), .int .i64 0, .slice none 0 0] 78)))
  have W0 := Lib.hid (show WhAt w.heap.size (w.heap.size + 1) w.heap.size ((w.alloc (.map #[] 0)).alloc (.cells #[.map (some w.heap.size), .int .i64 0, .slice none 0 0] 78)) 0 [] from ⟨by omega, .slice none 0 0, heap_at (by simp), own_none _ _ _ _⟩)
  have hmm := @run_makeMap Tryz.prog
  clear hs
  go_enter Tryz.func17, Tryz.ntmps17
  go_wp2_with fail
  generalize (w.alloc (.map #[] 0)).alloc (.cells #[.map (some w.heap.size), .int .i64 0, .slice none 0 0] 78) = wa at *
  go_loopg [13] l.length (fun m v wr => ∃ j : Nat, v = .int .i64 j ∧ l.length - j ≤ m ∧ j ≤ l.length ∧ Hid (Below w.heap.size w wr) ∧ Hid (NoneAt wr w.heap.size) ∧ Hid (WhAt w.heap.size (w.heap.size + 1) w.heap.size wr 0 []))
  case atStart => exact ⟨0, rfl, Nat.le_refl _, Nat.zero_le _, B0, N0, W0⟩
  case round =>
    obtain ⟨j, rfl, hm, hj, B, NN, WW⟩ := hrel
    have HM := Lib.hid hm
    clear hm
    by_cases hjl : j < l.length
    · obtain ⟨b, hb⟩ : ∃ b, l[j]? = some b := ⟨_, List.getElem?_eq_getElem hjl⟩
      obtain ⟨k5, hz⟩ := HS.out b (List.mem_of_getElem? hb)
      have gk : (b.kind == 5) = false := by simpa using k5
      have HZ := Lib.hid (show b.label.size ≤ maxLen by unfold maxLen; omega)
      obtain ⟨ao2, cap2, e2, hat⟩ := RD.out
      simp at e2
      obtain ⟨rfl, rfl⟩ := e2
      obtain ⟨g, o, ato, atc, bo, bc, rfl, c0, c1, c2, c3, -, -⟩ := hat j b hb
      replace c0 := hold B.out c0
      replace c1 := hold B.out c1
      replace c2 := hold B.out c2
      replace c3 := hold B.out c3
      have BX := Lib.hid (below_al (Below.refl wr.heap.size wr) (.cells #[.int .i64 b.kind, .string b.label, .slice ato b.attrs.length atc, .slice bo b.blocks.length bc] 30))
      have B1 := Lib.hid (below_tr B.out BX.out)
      have N1 := Lib.hid (NN.out.below BX.out)
      have W1 := Lib.hid (WW.out.below BX.out)
      obtain ⟨-, wv, hwb, -⟩ := W1.out
      have p0 := cell_of_row _ _ 0 _ _ _ hwb
      simp at p0
      clear hat hb k5 hz hwb
      have NBx := Lib.hid (heap_alloc_new wr (.cells #[.int .i64 b.kind, .string b.label, .slice ato b.attrs.length atc, .slice bo b.blocks.length bc] 30))
      go_upto_region 5 with fail
      have SZ := Lib.hid (show (wr.alloc (.cells #[.int .i64 b.kind, .string b.label, .slice ato b.attrs.length atc, .slice bo b.blocks.length bc] 30)).heap.size = wr.heap.size + 1 by simp)
      generalize wr.alloc (.cells #[.int .i64 b.kind, .string b.label, .slice ato b.attrs.length atc, .slice bo b.blocks.length bc] 30) = wx at *
      have BZ := Lib.hid (below_al (Below.refl wx.heap.size wx) (.cells #[.int .i64 0, .string ⟨#[]⟩, .slice none 0 0, .slice none 0 0] 30))
      have b1 := cell_of_row _ _ 1 _ _ _ NBx.out
      have b0 := cell_of_row _ _ 0 _ _ _ NBx.out
      simp at b0 b1
      have b1z := hold BZ.out b1
      have b0z := hold BZ.out b0
      have p0z := hold BZ.out p0
      have lk1 := look_none (W := wx.drew) (N1.out.below (below_drew (Below.refl _ _))) HZ.out
      have lk2 := look_none (W := (wx.alloc (.cells #[.int .i64 0, .string ⟨#[]⟩, .slice none 0 0, .slice none 0 0] 30)).drew) (N1.out.below (below_drew BZ.out)) HZ.out
      have NX := Lib.hid (N1.out.below (below_drew BZ.out))
      have WX := Lib.hid (W1.out.below (below_drew BZ.out))
      have BX2 := Lib.hid (below_tr B1.out (below_drew BZ.out))
      clear NBx BX B NN WW
      go_region_with fail
      all_goals (
        go_wp2
        go_roundg (l.length - (j + 1))
        case rel => exact ⟨j + 1, rfl, Nat.le_refl _, hjl, BX2, NX, WX⟩
        case measure => have := HM.out; omega)
    · go_wp2_with fail
      go_ret
      exact ⟨_, _, rfl, B.out, WW.out, NN.out, Nat.le_refl _⟩
end
end Go.Proofs.YtndeihmclecmcaaGreatDoor
namespace Go.Proofs.YtndeihmclecmcaaGreatDoor
open Go.RowKit
set_option linter.unusedVariables false
set_option linter.unusedSimpArgs false
/-- What Wants tells of nodes alone. -/
def wants0 (V : Vals) (l : List BlkL) : Int × List WantL := eachR (nodeStep V ⟨#[]⟩) 3 l []
def WantsTold (w : World) (r : Int × List WantL) (e : Ending) (w' : World) : Prop :=
  ∃ v, e = .returned (.tuple #[v, .int .i64 r.1]) ∧ Below w.heap.size w w' ∧ (r.1 = 0 → w'.ownsRow w.heap.size 50 5 v r.2.length (wantsCells r.2)) ∧ (r.1 ≠ 0 → v = .slice none 0 0)
theorem WhAt.lower {B B' P gd : Nat} {w : World} {beg : Nat} {ws : List WantL} (h : WhAt B P gd w beg ws) (hB : B' ≤ B) : WhAt B' P gd w beg ws := by
  obtain ⟨h1, wv, h2, h3⟩ := h
  refine ⟨Nat.le_trans hB h1, wv, h2, h3.1, ?_⟩
  rcases h3.2 with hn | ⟨g, cap, cur, rfl, hbg, hg, r⟩
  · exact .inl hn
  · exact .inr ⟨g, cap, cur, rfl, Nat.le_trans hB hbg, hg, r⟩
section
variable (w : World)
set_option maxHeartbeats 2000000 in
set_option maxRecDepth 20000 in
theorem pwants0 (d : Nat) (bv : Value) (l : List BlkL) (hrd : BlksRd (d + 1) w bv l) (hok : BlksOK (d + 1) l) (ht : TabOK w) (he : ErrVar w) (hk : ∀ b ∈ l, b.kind = 3) (V : Vals) (hn : ∀ b ∈ l, NodeOK (fun _ => none) V b) :
    Calls Tryz.prog 10 #[bv, .slice none 0 0] w (WantsTold w (wants0 V l)) := by
  have RD := Lib.hid hrd
  have OK := Lib.hid hok
  have HT := Lib.hid ht
  have HE := Lib.hid he
  have HK := Lib.hid hk
  have HN := Lib.hid hn
  have hl := hok.1
  obtain ⟨bo0, bc0, rfl, -⟩ := hrd
  have hmm := @run_makeMap Tryz.prog
  clear hok ht he hk hn
  go_enter Tryz.func10, Tryz.ntmps10
  go_wp2_with fail
  refine (pmay (d + 1) w _ l RD.out OK.out HE.out).mono ?_
  rintro e w1 ⟨rfl, hb1⟩
  have B1 := Lib.hid hb1
  clear hb1
  go_wp2_with fail
  refine (pallMay0 w1 0).mono ?_
  rintro e w2 ⟨rfl, hb2⟩
  have B2 := Lib.hid (below_tr B1.out hb2)
  clear hb2
  go_wp2_with fail
  refine (pnewWhole0 w2 d _ l (RD.out.below B2.out) hl (fun b hb => ⟨by rw [HK.out b hb]; decide, (OK.out.2 b hb).2.1⟩)).mono ?_
  rintro e w3 ⟨P, gd, rfl, hb3, hw3, hn3, hg3⟩
  have B3 := Lib.hid (below_tr B2.out hb3)
  have W3 := Lib.hid hw3
  have S3 := Lib.hid hb3.size
  clear hb3 hw3 hn3
  go_wp2_with fail
  refine (pnamesOf0 w3 0).mono ?_
  rintro e w4 ⟨rfl, hb4, hn4⟩
  have B4 := Lib.hid (below_tr B3.out hb4)
  have W4 := Lib.hid ((W3.out.lower B2.out.size).below hb4)
  have N4 := Lib.hid hn4
  have S4 := Lib.hid hb4.size
  clear hb4 hn4
  go_wp2_with fail
  have B5 := Lib.hid (below_al (below_al B4.out (.map #[] 0)) (.cells #[.iface 66 (.pointer (some ⟨P, 0, none⟩)), .string ⟨#[]⟩, .slice bo0 l.length bc0, .string ⟨#[]⟩, .map (some w3.heap.size), .map (some w4.heap.size)] 74))
  have W5 := Lib.hid ((W4.out.below (below_al (Below.refl _ _) (.map #[] 0))).below (below_al (Below.refl _ _) (.cells #[.iface 66 (.pointer (some ⟨P, 0, none⟩)), .string ⟨#[]⟩, .slice bo0 l.length bc0, .string ⟨#[]⟩, .map (some w3.heap.size), .map (some w4.heap.size)] 74)))
  have N5 := Lib.hid ((N4.out.below (below_al (Below.refl _ _) (.map #[] 0))).below (below_al (Below.refl _ _) (.cells #[.iface 66 (.pointer (some ⟨P, 0, none⟩)), .string ⟨#[]⟩, .slice bo0 l.length bc0, .string ⟨#[]⟩, .map (some w3.heap.size), .map (some w4.heap.size)] 74)))
  have M5 := Lib.hid (((NoneAt.new w4).below (below_al (Below.refl _ _) (.cells #[.iface 66 (.pointer (some ⟨P, 0, none⟩)), .string ⟨#[]⟩, .slice bo0 l.length bc0, .string ⟨#[]⟩, .map (some w3.heap.size), .map (some w4.heap.size)] 74))).scope)
  have C5 := Lib.hid (show ScAt ((w4.alloc (.map #[] 0)).alloc (.cells #[.iface 66 (.pointer (some ⟨P, 0, none⟩)), .string ⟨#[]⟩, .slice bo0 l.length bc0, .string ⟨#[]⟩, .map (some w3.heap.size), .map (some w4.heap.size)] 74)) (w4.heap.size + 1) (.iface 66 (.pointer (some ⟨P, 0, none⟩))) ⟨#[]⟩ (.slice bo0 l.length bc0) ⟨#[]⟩ w3.heap.size w4.heap.size from heap_at (by simp))
  have Z5 := Lib.hid (show w.heap.size ≤ w4.heap.size from B4.out.size)
  generalize (w4.alloc (.map #[] 0)).alloc (.cells #[.iface 66 (.pointer (some ⟨P, 0, none⟩)), .string ⟨#[]⟩, .slice bo0 l.length bc0, .string ⟨#[]⟩, .map (some w3.heap.size), .map (some w4.heap.size)] 74) = w5 at *
  have BB := Lib.hid (show Base w w5 P gd (w4.heap.size + 1) w3.heap.size w4.heap.size 0 [] (.iface 66 (.pointer (some ⟨P, 0, none⟩))) ⟨#[]⟩ ⟨#[]⟩ (.slice bo0 l.length bc0) (fun _ => none) from
    ⟨B5.out, HT.out, C5.out, M5.out, rfl, by simp, HT.out.below B5.out, HE.out.below B5.out HE.out.lt, B5.out.size, HE.out.lt, ⟨Nat.le_succ_of_le Z5.out, Z5.out, fun q hq => by cases hq⟩, Nat.zero_le _⟩)
  have PE := Lib.hid (pexpand0 w5 w P gd 0 (w4.heap.size + 1) w3.heap.size w4.heap.size 0 d [] (.iface 66 (.pointer (some ⟨P, 0, none⟩))) ⟨#[]⟩ ⟨#[]⟩ bo0 bc0 l (fun _ => none) BB.out RD.out hl V (fun b hb _ => HN.out b hb) (fun b hb => by rw [HK.out b hb]; decide) N5.out [] W5.out (by simp))
  go_wp2_with fail
  refine PE.out.mono ?_
  rintro e w6 ⟨rfl, h6⟩
  have WD := Lib.hid (show eachR (nodeStep V ⟨#[]⟩) 3 l [] = wants0 V l from rfl)
  rw [WD.out] at h6 ⊢
  have H6 := Lib.hid h6
  have B6 := Lib.hid (B5.out.trans h6.1.low')
  obtain ⟨-, wv, hwb, how⟩ := h6.2.1
  have p2 := cell_of_row _ _ 2 _ _ _ hwb
  simp at p2
  have OW := Lib.hid how
  obtain ⟨wo, wc, rfl⟩ := own_len how
  clear h6 hwb how PE
  generalize wants0 V l = r at *
  by_cases he : r.1 = 0
  · have ge : (r.1 != 0) = false := by simpa using he
    have HE0 := Lib.hid he
    clear he
    go_wp2_with fail
    exact bodyPost_ret (v := .tuple #[.slice wo r.2.length wc, .int .i64 0]) (by simp [results, Tryz.results10, go_sem]) rfl ⟨_, by rw [HE0.out], B6.out, fun _ => OW.out, fun h => absurd HE0.out h⟩
  · have ge : (r.1 != 0) = true := by simpa using he
    have HE0 := Lib.hid he
    clear he
    go_wp2_with fail
    exact bodyPost_ret (v := .tuple #[.slice none 0 0, .int .i64 r.1]) (by simp [results, Tryz.results10, go_sem]) rfl ⟨_, rfl, B6.out, fun h => absurd h HE0.out, fun _ => rfl⟩
end
end Go.Proofs.YtndeihmclecmcaaGreatDoor
namespace Go.Proofs.YtndeihmclecmcaaGreatDoor
open Go.RowKit
set_option linter.unusedVariables false
set_option linter.unusedSimpArgs false
theorem one_num (a : VL) : I64 (oneR 9 a).1.num := by
  unfold oneR
  rw [if_neg (by decide), if_pos rfl]
  split
  · unfold numR fitR
    by_cases h : -9223372036854775808 ≤ 0 - a.num ∧ 0 - a.num ≤ 9223372036854775807
    · rw [if_pos h]; exact h
    · rw [if_neg h]
      show I64 0
      unfold I64; omega
  · show I64 0
    unfold I64; omega
theorem one_kids (a : VL) : (oneR 9 a).1.kids = [] := by
  unfold oneR
  rw [if_neg (by decide), if_pos rfl]
  split
  · unfold numR; split <;> rfl
  · rfl
set_option maxHeartbeats 4000000 in
set_option maxRecDepth 20000 in
theorem made_neg (X : World → Prop) (L : ByteArray → Option VL) (n : NodeL) (x : VL) (hk : n.kind = 9) : MadeOK X L n [x] (oneR 9 x) := by
  intro w b g nn nv av vv pao kao pcap kcap lv h
  obtain ⟨lao, lcap, rfl, hat⟩ := h.row.at
  obtain ⟨gx, ox, lx, rfl, -, x0, x1, x2, x3, hx⟩ := hat 0 x rfl
  obtain ⟨hxk, xo, xc, rfl⟩ := hx
  simp only [Nat.zero_mul, Nat.add_zero] at x0 x1 x2 x3
  have B := Lib.hid (show Below w.heap.size w ((w.alloc (.cells #[.int .i64 n.kind, .int .i64 n.num, .string n.text, .slice pao n.parts.length pcap, .slice kao n.kids.length kcap] 35)).alloc (.cells #[.int .i64 0, .int .i64 0, .string ⟨#[]⟩, .slice none 0 0] 39)) from below_al (below_al (Below.refl _ _) _) _)
  have SC := Lib.hid (fun V => vone V 0 x (.slice xo 0 xc) 9 ⟨hxk, xo, xc, rfl⟩ (h.nums x (by simp)))
  have g1 : (n.kind == 1) = false := by simp; omega
  have g2 : (n.kind == 2) = false := by simp; omega
  have g3 : (n.kind == 3) = false := by simp; omega
  have g4 : (n.kind == 4) = false := by simp; omega
  have g5 : (n.kind == 5) = false := by simp; omega
  have g6 : (n.kind == 6) = false := by simp; omega
  have g7 : (n.kind == 7) = false := by simp; omega
  have g8 : (n.kind == 8) = false := by simp; omega
  have g9 : (n.kind == 9) = true := by simpa using hk
  have HKN := Lib.hid hk
  clear h hat hxk
  rw [hk] at *
  go_enter Tryz.func97, Tryz.ntmps97
  go_upto_region 18 with fail
  replace x0 := hold B.out x0
  replace x1 := hold B.out x1
  replace x2 := hold B.out x2
  replace x3 := hold B.out x3
  have NB := Lib.hid (show NBlk ((w.alloc (.cells #[.int .i64 9, .int .i64 n.num, .string n.text, .slice pao n.parts.length pcap, .slice kao n.kids.length kcap] 35)).alloc (.cells #[.int .i64 0, .int .i64 0, .string ⟨#[]⟩, .slice none 0 0] 39)) (w.heap.size + 1) 0 0 ⟨#[]⟩ from heap_at (by simp))
  have HK := Lib.hid (one_kids x)
  generalize oneR 9 x = r at *
  go_region_with (go_at_call 126; refine (SC.out _).mono ?_; rintro e w' ⟨rfl, hb2⟩; obtain ⟨⟨e0, e1, e2, e3, e4⟩, f0, f1, f2, f3⟩ := ((nblk_drewN NB.out _).below hb2).full; have HB := Lib.hid ((below_drewN B.out _).trans (hb2.mono (below_drewN B.out _).size)); clear hb2)
  all_goals (
    have HW := Lib.hid (below_set4 HB.out (g := w.heap.size + 1) (by omega) (.int .i64 r.1.kind) (.int .i64 r.1.num) (.string r.1.text) (.slice none 0 0))
    go_wp2_with fail
    refine bodyPost_ret (v := .tuple #[.agg #[.int .i64 r.1.kind, .int .i64 r.1.num, .string r.1.text, .slice none 0 0], .int .i64 r.2]) ?_ rfl ⟨.slice none 0 0, rfl, ⟨HK.out, _, _, rfl⟩, HW.out⟩
    simp [results, Tryz.results97, go_sem, e0, e1, e2, e3, e4, f0, f1, f2, f3])
/-- 'm'. -/
def numN (m : Int) : List NodeL := [⟨1, m, ⟨#[]⟩, [], []⟩]
/-- '-m'. -/
def negN (m : Int) : List NodeL := [⟨1, m, ⟨#[]⟩, [], []⟩, ⟨9, 0, ⟨#[]⟩, [], [0]⟩]
/-- 'c + count.index'. -/
def addN (c : Int) : List NodeL := [⟨1, c, ⟨#[]⟩, [], []⟩, ⟨4, 0, kIndex, [], []⟩, ⟨19, 0, ⟨#[]⟩, [], [0, 1]⟩]
def negM (vs : List VL) : Option (VL × Int) := match vs with | [a] => some (oneR 9 a) | _ => none
def madeN (L : ByteArray → Option VL) (n : NodeL) (vs : List VL) : Option (VL × Int) := if n.kind = 9 then negM vs else madeS L n vs
theorem num_walkW (m : Int) (hm : I64 m) (L : ByteArray → Option VL) (hL : LeafL L) : Walk TabOK L (numN m) (madeS L) (vnum m, 0) where
  kids := by
    intro n hn
    obtain rfl := List.mem_singleton.1 hn
    exact ⟨Nat.zero_le _, fun k hk => by cases hk⟩
  above := ⟨rfl, fun j hj => by have : j + 1 < 1 := hj; omega⟩
  few := by simp [numN]
  some_ := by simp [numN]
  plain := by
    intro n hn
    obtain rfl := List.mem_singleton.1 hn
    rfl
  made := by
    intro n hn vs r hr
    obtain rfl := List.mem_singleton.1 hn
    exact madeS_ok _ L hL _ hm (Nat.zero_le _) vs r hr
  ans := by
    show (if (0 : Nat) ≤ 0 then (madeS L ⟨1, m, ⟨#[]⟩, [], []⟩ []).bind fun r => if r.2 ≠ 0 ∨ ([] : List NodeL) = [] then some r else evR (madeS L) [] ([] ++ [r.1]) else none) = _
    rw [if_pos (Nat.le_refl _)]
    show (if (1 : Int) = 1 then some (VL.mk 1 m ⟨#[]⟩ [], (0 : Int)) else _).bind _ = _
    rw [if_pos rfl]
    rfl
  leaf := by simp [vnum, VL.kind]
  keep := fun _ _ h k => h.below k
theorem neg_walk (m : Int) (hm : 0 ≤ m ∧ m ≤ 100000) (L : ByteArray → Option VL) (hL : LeafL L) : Walk TabOK L (negN m) (madeN L) (vnum (-m), 0) where
  kids := by
    intro n hn
    simp only [negN, List.mem_cons, List.not_mem_nil, or_false] at hn
    rcases hn with rfl | rfl <;> simp [negN]
  above := by
    refine ⟨rfl, fun j hj => ?_⟩
    have hj : j + 1 < 2 := hj
    obtain rfl : j = 0 := by omega
    exact ⟨1, ⟨9, 0, ⟨#[]⟩, [], [0]⟩, 0, [], rfl, rfl, rfl, by simp, rfl⟩
  few := by simp [negN]
  some_ := by simp [negN]
  plain := by
    intro n hn
    simp only [negN, List.mem_cons, List.not_mem_nil, or_false] at hn
    rcases hn with rfl | rfl <;> rfl
  made := by
    intro n hn vs r hr
    simp only [negN, List.mem_cons, List.not_mem_nil, or_false] at hn
    rcases hn with rfl | rfl
    · have hr : madeS L ⟨1, m, ⟨#[]⟩, [], []⟩ vs = some r := by
        have e : madeN L ⟨1, m, ⟨#[]⟩, [], []⟩ vs = madeS L ⟨1, m, ⟨#[]⟩, [], []⟩ vs := if_neg (by show ¬ (1 : Int) = 9; decide)
        rw [← e]; exact hr
      exact madeS_ok _ L hL _ (by show _ ≤ m ∧ m ≤ _; omega) (Nat.zero_le _) vs r hr
    · have e : madeN L ⟨9, 0, ⟨#[]⟩, [], [0]⟩ vs = negM vs := if_pos rfl
      rw [e] at hr
      match vs, hr with
      | [a], hr =>
        obtain rfl := Option.some.inj hr
        refine ⟨made_neg _ L _ a rfl, ?_, ?_⟩
        · exact one_num a
        · exact one_kids a
  ans := by
    have e1 : madeN L (⟨1, m, ⟨#[]⟩, [], []⟩ : NodeL) [] = some (vnum m, 0) := by
      show (if (1 : Int) = 9 then _ else madeS L ⟨1, m, ⟨#[]⟩, [], []⟩ []) = _
      rw [if_neg (by decide)]
      show (if (1 : Int) = 1 then some (VL.mk 1 m ⟨#[]⟩ [], (0 : Int)) else _) = _
      rw [if_pos rfl]; rfl
    have e2 : madeN L (⟨9, 0, ⟨#[]⟩, [], [0]⟩ : NodeL) [vnum m] = some (vnum (-m), 0) := by
      show (if (9 : Int) = 9 then some (oneR 9 (vnum m)) else _) = _
      rw [if_pos rfl]
      unfold oneR
      rw [if_neg (by decide), if_pos rfl]
      show some (if (1 : Int) = 1 then numR (fitR (0 - m)) else (vz, 7)) = _
      rw [if_pos rfl]
      unfold fitR
      rw [if_pos (by omega), show (0 : Int) - m = -m by omega]
      rfl
    show (if (0 : Nat) ≤ 0 then (madeN L ⟨1, m, ⟨#[]⟩, [], []⟩ []).bind fun r => if r.2 ≠ 0 ∨ [(⟨9, 0, ⟨#[]⟩, [], [0]⟩ : NodeL)] = [] then some r else evR (madeN L) [(⟨9, 0, ⟨#[]⟩, [], [0]⟩ : NodeL)] ([] ++ [r.1]) else none) = _
    rw [if_pos (Nat.le_refl _), e1]
    show (if (0 : Int) ≠ 0 ∨ [(⟨9, 0, ⟨#[]⟩, [], [0]⟩ : NodeL)] = [] then some (vnum m, (0 : Int)) else evR (madeN L) [(⟨9, 0, ⟨#[]⟩, [], [0]⟩ : NodeL)] [vnum m]) = _
    rw [if_neg (by simp)]
    show (if (1 : Nat) ≤ 1 then (madeN L ⟨9, 0, ⟨#[]⟩, [], [0]⟩ [vnum m]).bind fun r => if r.2 ≠ 0 ∨ ([] : List NodeL) = [] then some r else evR (madeN L) [] ([] ++ [r.1]) else none) = _
    rw [if_pos (Nat.le_refl _), e2]
    rfl
  leaf := by simp [vnum, VL.kind]
  keep := fun _ _ h k => h.below k
end Go.Proofs.YtndeihmclecmcaaGreatDoor
namespace Go.Proofs.YtndeihmclecmcaaGreatDoor
open Go.RowKit
set_option linter.unusedVariables false
set_option linter.unusedSimpArgs false
theorem fit_inW {x : Int} (h : -9223372036854775808 ≤ x ∧ x ≤ 9223372036854775807) : fitR x = (x, 0) := by unfold fitR; rw [if_pos h]
theorem add_made (c : Int) (L : ByteArray → Option VL) : ∀ vs, madeS L (⟨1, c, ⟨#[]⟩, [], []⟩ : NodeL) vs = some (vnum c, 0) := fun vs => by
  show (if (1 : Int) = 1 then some (VL.mk 1 c ⟨#[]⟩ [], (0 : Int)) else _) = _
  rw [if_pos rfl]; rfl
theorem add_ref (L : ByteArray → Option VL) (vs : List VL) : madeS L (⟨4, 0, kIndex, [], []⟩ : NodeL) vs = some (refR L kIndex) := by
  show (if (4 : Int) = 1 then _ else if (4 : Int) = 3 then _ else if (4 : Int) = 4 then some (refR L kIndex) else _) = _
  rw [if_neg (by decide), if_neg (by decide), if_pos rfl]
theorem add_walk (c : Int) (hc : 0 ≤ c ∧ c ≤ 100000) (L : ByteArray → Option VL) (hL : LeafL L) (r : VL × Int) (hr : (∃ i : Int, 0 ≤ i ∧ i ≤ 1000 ∧ L kIndex = some (vnum i) ∧ r = (vnum (c + i), 0)) ∨ L kIndex = none ∧ r = (vz, 2)) : Walk TabOK L (addN c) (madeS L) r where
  kids := by
    intro n hn
    simp only [addN, List.mem_cons, List.not_mem_nil, or_false] at hn
    rcases hn with rfl | rfl | rfl <;> simp [addN]
  above := by
    refine ⟨rfl, fun j hj => ?_⟩
    have hj : j + 1 < 3 := hj
    refine ⟨2, ⟨19, 0, ⟨#[]⟩, [], [0, 1]⟩, 0, [1], ?_, rfl, rfl, by simp, rfl⟩
    match j, hj with
    | 0, _ => rfl
    | 1, _ => rfl
  few := by simp [addN]
  some_ := by simp [addN]
  plain := by
    intro n hn
    simp only [addN, List.mem_cons, List.not_mem_nil, or_false] at hn
    rcases hn with rfl | rfl | rfl <;> rfl
  made := by
    intro n hn vs r hr
    refine madeS_ok _ L hL n ?_ ?_ vs r hr
    · simp only [addN, List.mem_cons, List.not_mem_nil, or_false] at hn
      rcases hn with rfl | rfl | rfl
      · show _ ≤ c ∧ c ≤ _; omega
      · show _ ≤ (0 : Int) ∧ (0 : Int) ≤ _; omega
      · show _ ≤ (0 : Int) ∧ (0 : Int) ≤ _; omega
    · simp only [addN, List.mem_cons, List.not_mem_nil, or_false] at hn
      rcases hn with rfl | rfl | rfl
      · exact Nat.zero_le _
      · show (11 : Nat) ≤ maxLen; unfold maxLen; omega
      · exact Nat.zero_le _
  ans := by
    show (if (0 : Nat) ≤ 0 then (madeS L ⟨1, c, ⟨#[]⟩, [], []⟩ []).bind fun r => if r.2 ≠ 0 ∨ [(⟨4, 0, kIndex, [], []⟩ : NodeL), ⟨19, 0, ⟨#[]⟩, [], [0, 1]⟩] = [] then some r else evR (madeS L) [(⟨4, 0, kIndex, [], []⟩ : NodeL), ⟨19, 0, ⟨#[]⟩, [], [0, 1]⟩] ([] ++ [r.1]) else none) = _
    rw [if_pos (Nat.le_refl _), add_made]
    show (if (0 : Int) ≠ 0 ∨ [(⟨4, 0, kIndex, [], []⟩ : NodeL), ⟨19, 0, ⟨#[]⟩, [], [0, 1]⟩] = [] then some (vnum c, (0 : Int)) else evR (madeS L) [(⟨4, 0, kIndex, [], []⟩ : NodeL), ⟨19, 0, ⟨#[]⟩, [], [0, 1]⟩] [vnum c]) = _
    rw [if_neg (by simp)]
    show (if (0 : Nat) ≤ 1 then (madeS L ⟨4, 0, kIndex, [], []⟩ []).bind fun r => if r.2 ≠ 0 ∨ [(⟨19, 0, ⟨#[]⟩, [], [0, 1]⟩ : NodeL)] = [] then some r else evR (madeS L) [(⟨19, 0, ⟨#[]⟩, [], [0, 1]⟩ : NodeL)] ([vnum c] ++ [r.1]) else none) = _
    rw [if_pos (by omega), add_ref]
    rcases hr with ⟨i, hi0, hi1, hi, rfl⟩ | ⟨hi, rfl⟩
    · have e : refR L kIndex = (vnum i, 0) := by unfold refR; rw [hi]
      rw [e]
      show (if (0 : Int) ≠ 0 ∨ [(⟨19, 0, ⟨#[]⟩, [], [0, 1]⟩ : NodeL)] = [] then some (vnum i, (0 : Int)) else evR (madeS L) [(⟨19, 0, ⟨#[]⟩, [], [0, 1]⟩ : NodeL)] [vnum c, vnum i]) = _
      rw [if_neg (by simp)]
      have e3 : madeS L (⟨19, 0, ⟨#[]⟩, [], [0, 1]⟩ : NodeL) [vnum c, vnum i] = some (vnum (c + i), 0) := by
        show (if (19 : Int) = 1 then _ else if (19 : Int) = 3 then _ else if (19 : Int) = 4 then _ else if (19 : Int) = 19 then some (twoR 0 19 (vnum c) (vnum i)) else none) = _
        rw [if_neg (by decide), if_neg (by decide), if_neg (by decide), if_pos rfl]
        unfold twoR
        rw [if_neg (by omega), if_neg (by omega), if_neg (by omega), if_pos (by omega), if_pos ⟨rfl, rfl⟩]
        show some (numR (fitR (c + i))) = _
        rw [fit_inW (by omega)]
        rfl
      show (if (2 : Nat) ≤ 2 then (madeS L ⟨19, 0, ⟨#[]⟩, [], [0, 1]⟩ [vnum c, vnum i]).bind fun r => if r.2 ≠ 0 ∨ ([] : List NodeL) = [] then some r else evR (madeS L) [] ([] ++ [r.1]) else none) = _
      rw [if_pos (Nat.le_refl _), e3]
      rfl
    · have e : refR L kIndex = (vz, 2) := by unfold refR; rw [hi]
      rw [e]
      show (if (2 : Int) ≠ 0 ∨ [(⟨19, 0, ⟨#[]⟩, [], [0, 1]⟩ : NodeL)] = [] then some (vz, (2 : Int)) else evR (madeS L) [(⟨19, 0, ⟨#[]⟩, [], [0, 1]⟩ : NodeL)] [vnum c, vz]) = _
      rw [if_pos (by simp)]
  leaf := by
    rcases hr with ⟨i, -, -, -, rfl⟩ | ⟨-, rfl⟩
    · simp [vnum, VL.kind]
    · simp [vz, VL.kind]
  keep := fun _ _ h k => h.below k
theorem asked_none (ns : List NodeL) : askedL (fun _ => none) ns = [] := by
  have h2 : ∀ ps : List PartL, askParts (fun _ => none) ps = [] := fun ps => by
    unfold askParts
    rw [List.flatMap_eq_nil_iff]
    intro p _
    split <;> rfl
  unfold askedL
  rw [List.flatMap_eq_nil_iff]
  intro n _
  unfold askNode
  rw [h2]
  split <;> rfl
/-- No parts, no long names. -/
def Bare (ns : List NodeL) : Prop := ns.length ≤ 1000 ∧ ∀ n ∈ ns, n.parts = [] ∧ n.text.size ≤ 100 ∧ n.kids.length ≤ 100
theorem Worth.mk' {hd : List (ByteArray × VL)} {ns : List NodeL} {r : VL × Int} (ht : treeP ns = true) (hb : Bare ns) (hh : hd.length ≤ 100 ∧ ∀ b ∈ hd, I64 b.2.num ∧ b.1.size ≤ 281474976710656) (hw : ∃ M, Walk TabOK (lookL hd) ns M r) : Worth (fun _ => none) hd ns r where
  tree := ht
  tame := ⟨hb.1, fun n hn => by have := (hb.2 n hn).2.1; omega, fun n hn => by rw [(hb.2 n hn).1]; simp, fun n hn p hp => by rw [(hb.2 n hn).1] at hp; cases hp⟩
  few := fun n hn => ⟨⟨by rw [(hb.2 n hn).1]; simp, fun p hp => by rw [(hb.2 n hn).1] at hp; cases hp⟩, by have := (hb.2 n hn).2.1; omega, by have := (hb.2 n hn).2.2; omega⟩
  asks := by rw [asked_none]; simp
  head := hh
  walk := by rw [asked_none, List.append_nil]; exact hw
/-- What the law's expressions are worth. -/
def lawV : Vals := fun hd ns => match ns with
  | [n] => (vnum n.num, 0)
  | [n, _] => (vnum (-n.num), 0)
  | [n, _, _] => (match hd with | b :: _ => (vnum (n.num + b.2.num), 0) | [] => (vz, 2))
  | _ => (vz, 0)
theorem idx_leaf {hd : List (ByteArray × VL)} (h : hd = [] ∨ ∃ i, i < 21 ∧ hd = idxB i) : LeafL (lookL hd) := by
  rcases h with rfl | ⟨i, hi, rfl⟩
  · intro x v hv; simp [lookL] at hv
  · intro x v hv
    unfold lookL at hv
    obtain ⟨p, hp, rfl⟩ := Option.map_eq_some_iff.1 hv
    have := List.mem_of_find?_eq_some hp
    simp only [idxB, List.mem_cons, List.not_mem_nil, or_false] at this
    subst this
    exact ⟨(by show _ ≤ (i : Int) ∧ (i : Int) ≤ _; omega), rfl⟩
theorem idx_head {hd : List (ByteArray × VL)} (h : hd = [] ∨ ∃ i, i < 21 ∧ hd = idxB i) : hd.length ≤ 100 ∧ ∀ b ∈ hd, I64 b.2.num ∧ b.1.size ≤ 281474976710656 := by
  rcases h with rfl | ⟨i, hi, rfl⟩
  · exact ⟨by simp, fun b hb => by cases hb⟩
  · refine ⟨by simp [idxB], fun b hb => ?_⟩
    obtain rfl := List.mem_singleton.1 hb
    exact ⟨(by show _ ≤ (i : Int) ∧ (i : Int) ≤ _; omega), by show (11 : Nat) ≤ _; omega⟩
theorem node_num (m : Int) (hm : 0 ≤ m) : nodeP ⟨1, m, ⟨#[]⟩, [], []⟩ = true := by
  show (kidsP 1 ((([] : List Int).length : Nat) : Int) && numP ⟨1, m, ⟨#[]⟩, [], []⟩ && textP ⟨1, m, ⟨#[]⟩, [], []⟩ && (((1 : Int) == 2) || (([] : List PartL).length == 0)) && partsP []) = true
  have k : kidsP 1 ((([] : List Int).length : Nat) : Int) = true := by decide
  have t : textP ⟨1, m, ⟨#[]⟩, [], []⟩ = true := by
    unfold textP
    rw [if_neg (by show ¬ (1 : Int) = 5; decide), if_neg (by show ¬ (1 : Int) = 4; decide)]
    exact decide_eq_true rfl
  have n : numP ⟨1, m, ⟨#[]⟩, [], []⟩ = true := by
    unfold numP
    rw [if_pos (by show (1 : Int) = 1; rfl)]
    show decide (m ≥ 0) = true
    simpa using hm
  rw [k, t, n]
  rfl
theorem tree_num (m : Int) (hm : 0 ≤ m) : treeP (numN m) = true := by
  show (if (0 : Nat) ≤ 0 then (if ([] : List Int) = [] then (if nodeP ⟨1, m, ⟨#[]⟩, [], []⟩ then treeGo [] 1 [0] else false) else false) else false) = true
  rw [if_pos (Nat.le_refl _), if_pos rfl, if_pos (node_num m hm)]
  rfl
theorem worth_num (m : Int) (hm : 0 ≤ m ∧ m ≤ 100000) {hd : List (ByteArray × VL)} (h : hd = [] ∨ ∃ i, i < 21 ∧ hd = idxB i) : Worth (fun _ => none) hd (numN m) (lawV hd (numN m)) :=
  Worth.mk' (tree_num m hm.1) ⟨by simp [numN], fun n hn => by obtain rfl := List.mem_singleton.1 hn; exact ⟨rfl, Nat.zero_le _, Nat.zero_le _⟩⟩ (idx_head h) ⟨_, num_walkW m (by show _ ≤ m ∧ m ≤ _; omega) _ (idx_leaf h)⟩
theorem node_neg : nodeP ⟨9, 0, ⟨#[]⟩, [], [0]⟩ = true := by decide
theorem node_add : nodeP ⟨19, 0, ⟨#[]⟩, [], [0, 1]⟩ = true := by decide
theorem node_idx : nodeP ⟨4, 0, kIndex, [], []⟩ = true := by kernel_rfl
theorem tree_neg (m : Int) (hm : 0 ≤ m) : treeP (negN m) = true := by
  show (if (0 : Nat) ≤ 0 then (if ([] : List Int) = [] then (if nodeP ⟨1, m, ⟨#[]⟩, [], []⟩ then treeGo [⟨9, 0, ⟨#[]⟩, [], [0]⟩] 1 [0] else false) else false) else false) = true
  rw [if_pos (Nat.le_refl _), if_pos rfl, if_pos (node_num m hm)]
  show (if (1 : Nat) ≤ 1 then (if ([0] : List Int) = [0] then (if nodeP ⟨9, 0, ⟨#[]⟩, [], [0]⟩ then treeGo [] 2 [1] else false) else false) else false) = true
  rw [if_pos (Nat.le_refl _), if_pos rfl, if_pos node_neg]
  rfl
theorem tree_add (m : Int) (hm : 0 ≤ m) : treeP (addN m) = true := by
  show (if (0 : Nat) ≤ 0 then (if ([] : List Int) = [] then (if nodeP ⟨1, m, ⟨#[]⟩, [], []⟩ then treeGo [⟨4, 0, kIndex, [], []⟩, ⟨19, 0, ⟨#[]⟩, [], [0, 1]⟩] 1 [0] else false) else false) else false) = true
  rw [if_pos (Nat.le_refl _), if_pos rfl, if_pos (node_num m hm)]
  show (if (0 : Nat) ≤ 1 then (if ([] : List Int) = [] then (if nodeP ⟨4, 0, kIndex, [], []⟩ then treeGo [⟨19, 0, ⟨#[]⟩, [], [0, 1]⟩] 2 [0, 1] else false) else false) else false) = true
  rw [if_pos (by omega), if_pos rfl, if_pos node_idx]
  show (if (2 : Nat) ≤ 2 then (if ([0, 1] : List Int) = [0, 1] then (if nodeP ⟨19, 0, ⟨#[]⟩, [], [0, 1]⟩ then treeGo [] 3 [2] else false) else false) else false) = true
  rw [if_pos (Nat.le_refl _), if_pos rfl, if_pos node_add]
  rfl
theorem worth_neg (m : Int) (hm : 0 ≤ m ∧ m ≤ 100000) {hd : List (ByteArray × VL)} (h : hd = [] ∨ ∃ i, i < 21 ∧ hd = idxB i) : Worth (fun _ => none) hd (negN m) (lawV hd (negN m)) :=
  Worth.mk' (tree_neg m hm.1) ⟨by simp [negN], fun n hn => by
    simp only [negN, List.mem_cons, List.not_mem_nil, or_false] at hn
    rcases hn with rfl | rfl <;> exact ⟨rfl, Nat.zero_le _, by simp⟩⟩ (idx_head h) ⟨_, neg_walk m hm _ (idx_leaf h)⟩
theorem worth_add (m : Int) (hm : 0 ≤ m ∧ m ≤ 100000) {hd : List (ByteArray × VL)} (h : hd = [] ∨ ∃ i, i < 21 ∧ hd = idxB i) : Worth (fun _ => none) hd (addN m) (lawV hd (addN m)) :=
  Worth.mk' (tree_add m hm.1) ⟨by simp [addN], fun n hn => by
    simp only [addN, List.mem_cons, List.not_mem_nil, or_false] at hn
    rcases hn with rfl | rfl | rfl
    · exact ⟨rfl, Nat.zero_le _, by simp⟩
    · exact ⟨rfl, by show (11 : Nat) ≤ 100; omega, by simp⟩
    · exact ⟨rfl, Nat.zero_le _, by simp⟩⟩ (idx_head h) ⟨_, add_walk m hm _ (idx_leaf h) _ (by
      rcases h with rfl | ⟨i, hi, rfl⟩
      · exact .inr ⟨rfl, rfl⟩
      · refine .inl ⟨(i : Int), by omega, by omega, ?_, rfl⟩
        show (List.find? (fun b => decide (b.1 = kIndex)) [(kIndex, vnum (i : Int))]).map (·.2) = _
        rw [List.find?_cons_of_pos (by simp)]
        rfl)⟩
/-- The block of the law: its expression of cpu, its count. -/
def lawB (lb : ByteArray) (al : List (ByteArray × List NodeL)) : BlkL := .mk 3 lb al []
theorem name_ok (x : ByteArray) (h : x = kCpu ∨ x = kCount) : nameP x = true ∧ x.size ≤ 100 := by
  rcases h with rfl | rfl
  · exact ⟨by kernel_rfl, by show (3 : Nat) ≤ _; omega⟩
  · exact ⟨by kernel_rfl, by show (5 : Nat) ≤ _; omega⟩
end Go.Proofs.YtndeihmclecmcaaGreatDoor
namespace Go.Proofs.YtndeihmclecmcaaGreatDoor
open Go.RowKit
set_option linter.unusedVariables false
set_option linter.unusedSimpArgs false
theorem turnsL_all {step : ByteArray → List (ByteArray × VL) → List WantL → Int × List WantL} {nm : ByteArray} {f : Nat → WantL} (h : ∀ i ws, i < 21 → ws.length < 120 → step (nameI nm i) (idxB i) ws = (0, ws ++ [f i])) :
    ∀ (is : List Nat) (ws : List WantL), (∀ i ∈ is, i < 21) → ws.length + is.length ≤ 120 → turnsL step nm is ws = (0, ws ++ is.map f) := by
  intro is
  induction is with
  | nil => intro ws _ _; simp [turnsL]
  | cons i is ih =>
    intro ws hi hl
    simp only [List.length_cons] at hl
    have e := h i ws (hi i (by simp)) (by omega)
    rw [turnsL_ok (by rw [e]), e]
    show turnsL step nm is (ws ++ [f i]) = _
    rw [ih _ (fun k hk => hi k (List.mem_cons_of_mem _ hk)) (by simp; omega)]
    simp
theorem name_short {nm : ByteArray} {i : Nat} (hn : nm.size ≤ 10) (hi : i < 21) : ¬ 24 < (nameI nm i).size := by
  have := itoa_size (j := i) (by omega)
  unfold nameI
  rw [ByteArray.size_append, ByteArray.size_append]
  have : (⟨#[45]⟩ : ByteArray).size = 1 := rfl
  omega
theorem ne_cc : ¬ kCpu = kCount := by decide
theorem ne_cp : ¬ kCpu = kParent := by decide
/-- A node with an amount of cpu that hangs on the index. -/
theorem turn_add (c : Int) (hc : 0 ≤ c ∧ c ≤ 65535) (ex : List NodeL) (nm : ByteArray) (hn : nm.size ≤ 10) (i : Nat) (ws : List WantL) (hi : i < 21) (hw : ws.length < 120) :
    turnNode ⟨#[]⟩ (nameI nm i) (lawV (idxB i)) [(kCpu, addN c), (kCount, ex)] ws = (0, ws ++ [⟨nameI nm i, ⟨#[]⟩, c + i, 0, 0⟩]) := by
  have e1 : stepAttr ⟨#[]⟩ kCpu (lawV (idxB i) (addN c)) ⟨nameI nm i, ⟨#[]⟩, 0, 0, 0⟩ = (⟨nameI nm i, ⟨#[]⟩, c + i, 0, 0⟩, 0) := by
    show (if (0 : Int) ≠ 0 then _ else setAttr ⟨#[]⟩ kCpu (vnum (c + (i : Int))) ⟨nameI nm i, ⟨#[]⟩, 0, 0, 0⟩) = _
    rw [if_neg (by simp)]
    unfold setAttr
    rw [if_neg ne_cp, if_pos rfl]
    have e : amountR (vnum (c + (i : Int))) = (c + i, 0) := by
      show (if (1 : Int) ≠ 1 then ((0 : Int), (7 : Int)) else if c + (i : Int) < 0 ∨ 1099511627776 < c + (i : Int) then (0, 1) else (c + (i : Int), 0)) = _
      rw [if_neg (by simp), if_neg (by omega)]
    rw [e]
  have e2 : nodeGo ⟨#[]⟩ (lawV (idxB i)) [(kCpu, addN c), (kCount, ex)] ⟨nameI nm i, ⟨#[]⟩, 0, 0, 0⟩ = (⟨nameI nm i, ⟨#[]⟩, c + i, 0, 0⟩, 0) := by
    rw [nodeGo_ok (by exact ne_cc) (by show (stepAttr ⟨#[]⟩ kCpu (lawV (idxB i) (addN c)) _).2 = 0; rw [e1])]
    show nodeGo _ _ _ (stepAttr ⟨#[]⟩ kCpu (lawV (idxB i) (addN c)) _).1 = _
    rw [e1, nodeGo_count rfl]
    rfl
  unfold turnNode
  rw [if_neg (name_short hn hi), e2, if_neg (by simp), if_neg (by omega)]
theorem turn_bare (ex : List NodeL) (nm : ByteArray) (hn : nm.size ≤ 10) (i : Nat) (ws : List WantL) (hi : i < 21) (hw : ws.length < 120) :
    turnNode ⟨#[]⟩ (nameI nm i) (lawV (idxB i)) [(kCount, ex)] ws = (0, ws ++ [⟨nameI nm i, ⟨#[]⟩, 0, 0, 0⟩]) := by
  have e2 : nodeGo ⟨#[]⟩ (lawV (idxB i)) [(kCount, ex)] ⟨nameI nm i, ⟨#[]⟩, 0, 0, 0⟩ = (⟨nameI nm i, ⟨#[]⟩, 0, 0, 0⟩, 0) := by
    rw [nodeGo_count rfl]
    rfl
  unfold turnNode
  rw [if_neg (name_short hn hi), e2, if_neg (by simp), if_neg (by omega)]
theorem wants_one {b : BlkL} (hk : b.kind = 3) (V : Vals) : wants0 V [b] = nodeStep V ⟨#[]⟩ b [] := by
  unfold wants0
  by_cases h : (nodeStep V ⟨#[]⟩ b []).1 = 0
  · rw [eachR_ok hk h]
    show ((0 : Int), (nodeStep V ⟨#[]⟩ b []).2) = _
    rw [← h]
  · rw [eachR_err hk h]
theorem step_count {lb : ByteArray} {al : List (ByteArray × List NodeL)} {ex : List NodeL} {V : Vals} (ho : onlyB al nodeNames = true) (ha : attrL al kCount = some ex) :
    nodeStep V ⟨#[]⟩ (lawB lb al) [] = if (countR (V [] ex)).2 ≠ 0 then ((countR (V [] ex)).2, []) else turnsL (fun nm hd ws => turnNode ⟨#[]⟩ nm (V hd) al ws) (⟨#[]⟩ ++ lb) (List.range (countR (V [] ex)).1.toNat) [] := by
  unfold nodeStep
  rw [show (lawB lb al).attrs = al from rfl, if_neg (by rw [ho]; simp)]
  unfold turnsR
  rw [show (lawB lb al).attrs = al from rfl, ha]
  rfl
theorem cnt_num (k : Int) (h : 0 ≤ k) : countR (lawV [] (numN k)) = if 20 < k then (0, 4) else (k, 0) := by
  show (if (0 : Int) ≠ 0 then ((0 : Int), (0 : Int)) else if (1 : Int) ≠ 1 then (0, 7) else if k < 0 then (0, 1) else if 20 < k then (0, 4) else (k, 0)) = _
  rw [if_neg (by simp), if_neg (by simp), if_neg (by omega)]
theorem cnt_neg (k : Int) (h : 0 < k) : countR (lawV [] (negN k)) = (0, 1) := by
  show (if (0 : Int) ≠ 0 then ((0 : Int), (0 : Int)) else if (1 : Int) ≠ 1 then (0, 7) else if -k < 0 then (0, 1) else if 20 < -k then (0, 4) else (-k, 0)) = _
  rw [if_neg (by simp), if_neg (by simp), if_pos (by omega)]
theorem lb_size (lb : ByteArray) (h : lb.size ≤ 10) : ((⟨#[]⟩ : ByteArray) ++ lb).size ≤ 10 := by
  rw [ByteArray.size_append]
  have : (⟨#[]⟩ : ByteArray).size = 0 := rfl
  omega
theorem al_count (x : ByteArray) (ns ex : List NodeL) (h : ¬ x = kCount) : attrL [(x, ns), (kCount, ex)] kCount = some ex := by
  unfold attrL
  rw [List.find?_cons_of_neg (by simpa using h), List.find?_cons_of_pos (by simp)]
  rfl
theorem al_count1 (ex : List NodeL) : attrL [(kCount, ex)] kCount = some ex := by
  unfold attrL
  rw [List.find?_cons_of_pos (by simp)]
  rfl
theorem only2 (ns ex : List NodeL) : onlyB [(kCpu, ns), (kCount, ex)] nodeNames = true := by
  show (inNamesW kCpu nodeNames && (inNamesW kCount nodeNames && true)) = true
  rw [show inNamesW kCpu nodeNames = true by decide, show inNamesW kCount nodeNames = true by decide]
  rfl
theorem only1 (ex : List NodeL) : onlyB [(kCount, ex)] nodeNames = true := by
  show (inNamesW kCount nodeNames && true) = true
  rw [show inNamesW kCount nodeNames = true by decide]
  rfl
/-- 'w'. -/
def lbW : ByteArray := ⟨#[119]⟩
def lbA : ByteArray := ⟨#[97]⟩
theorem res_few (c : Int) (hc : 0 ≤ c ∧ c ≤ 65535) (n : Nat) (hn : n ≤ 20) : wants0 lawV [lawB lbW [(kCpu, addN c), (kCount, numN n)]] = (0, (List.range n).map fun i => ⟨nameI (⟨#[]⟩ ++ lbW) i, ⟨#[]⟩, c + i, 0, 0⟩) := by
  have e : countR (lawV [] (numN n)) = ((n : Int), 0) := by rw [cnt_num _ (by omega), if_neg (by omega)]
  rw [wants_one rfl, step_count (only2 _ _) (al_count _ _ _ ne_cc), e, if_neg (by simp), Int.toNat_natCast]
  rw [turnsL_all (f := fun i => ⟨nameI (⟨#[]⟩ ++ lbW) i, ⟨#[]⟩, c + i, 0, 0⟩) (fun i ws hi hw => turn_add c hc _ _ (lb_size _ (by decide)) i ws hi hw) _ _ (fun i hi => by have := List.mem_range.1 hi; omega) (by simp; omega)]
  rfl
theorem res_many (c : Int) (k : Int) (hk : 20 < k) : wants0 lawV [lawB lbW [(kCpu, addN c), (kCount, numN k)]] = (4, []) := by
  have e : countR (lawV [] (numN k)) = (0, 4) := by rw [cnt_num _ (by omega), if_pos hk]
  rw [wants_one rfl, step_count (only2 _ _) (al_count _ _ _ ne_cc), e, if_pos (by simp)]
theorem res_neg (c : Int) (k : Int) (hk : 0 < k) : wants0 lawV [lawB lbW [(kCpu, addN c), (kCount, negN k)]] = (1, []) := by
  rw [wants_one rfl, step_count (only2 _ _) (al_count _ _ _ ne_cc), cnt_neg _ hk, if_pos (by simp)]
theorem res_awake : wants0 lawV [lawB lbA [(kCount, numN 2)]] = (0, [⟨nameI (⟨#[]⟩ ++ lbA) 0, ⟨#[]⟩, 0, 0, 0⟩, ⟨nameI (⟨#[]⟩ ++ lbA) 1, ⟨#[]⟩, 0, 0, 0⟩]) := by
  have e : countR (lawV [] (numN 2)) = (2, 0) := by rw [cnt_num _ (by omega), if_neg (by omega)]
  rw [wants_one rfl, step_count (only1 _) (al_count1 _), e, if_neg (by simp)]
  show turnsL _ _ (List.range 2) [] = _
  rw [turnsL_all (f := fun i => ⟨nameI (⟨#[]⟩ ++ lbA) i, ⟨#[]⟩, 0, 0, 0⟩) (fun i ws hi hw => turn_bare _ _ (lb_size _ (by decide)) i ws hi hw) _ _ (fun i hi => by have := List.mem_range.1 hi; omega) (by simp)]
  rfl
/-- An expression of the law. -/
def LawEx (ns : List NodeL) : Prop := (∃ m, (0 ≤ m ∧ m ≤ 100000) ∧ (ns = numN m ∨ ns = negN m ∨ ns = addN m))
theorem LawEx.worth {ns : List NodeL} (h : LawEx ns) {hd : List (ByteArray × VL)} (hh : hd = [] ∨ ∃ i, i < 21 ∧ hd = idxB i) : Worth (fun _ => none) hd ns (lawV hd ns) := by
  obtain ⟨m, hm, rfl | rfl | rfl⟩ := h
  · exact worth_num m hm hh
  · exact worth_neg m hm hh
  · exact worth_add m hm hh
theorem LawEx.val {ns : List NodeL} (h : LawEx ns) {hd : List (ByteArray × VL)} (hh : hd = [] ∨ ∃ i, i < 21 ∧ hd = idxB i) : I64 (lawV hd ns).1.num ∧ (lawV hd ns).1.text.size ≤ 100000 := by
  obtain ⟨m, hm, rfl | rfl | rfl⟩ := h
  · exact ⟨(by show _ ≤ m ∧ m ≤ _; omega), Nat.zero_le _⟩
  · exact ⟨(by show _ ≤ -m ∧ -m ≤ _; omega), Nat.zero_le _⟩
  · rcases hh with rfl | ⟨i, hi, rfl⟩
    · exact ⟨(by show _ ≤ (0 : Int) ∧ (0 : Int) ≤ _; omega), Nat.zero_le _⟩
    · exact ⟨(by show _ ≤ m + (i : Int) ∧ m + (i : Int) ≤ _; omega), Nat.zero_le _⟩
theorem node_ok {lb : ByteArray} {al : List (ByteArray × List NodeL)} (hl : al.length ≤ 10) (hb : lb.size ≤ 10) (h : ∀ a ∈ al, (a.1 = kCpu ∨ a.1 = kCount) ∧ LawEx a.2) : NodeOK (fun _ => none) lawV (lawB lb al) where
  few := by show al.length ≤ _; omega
  size := fun a ha => by have := (name_ok _ (h a ha).1).2; omega
  label := by show lb.size ≤ _; omega
  count := fun ns hn => by
    unfold attrL at hn
    obtain ⟨a, ha, rfl⟩ := Option.map_eq_some_iff.1 hn
    have hm := List.mem_of_find?_eq_some ha
    exact ⟨(h a hm).2.worth (.inl rfl), ((h a hm).2.val (.inl rfl)).1⟩
  worth := fun hd hh a ha _ => ⟨(h a ha).2.worth hh, ((h a ha).2.val hh).2⟩
theorem blks_ok {lb : ByteArray} {al : List (ByteArray × List NodeL)} (hl : al.length ≤ 10) (hb : lb.size ≤ 10) (hlb : labelB lb = true) (ho : NamesOnce al) (h : ∀ a ∈ al, (a.1 = kCpu ∨ a.1 = kCount) ∧ LawEx a.2) : BlksOK 1 [lawB lb al] :=
  ⟨by simp, fun b hm => by
    obtain rfl := List.mem_singleton.1 hm
    exact ⟨.plain (.inr (.inl rfl)) hlb ⟨by show al.length ≤ _; omega, fun a ha => by have := (name_ok _ (h a ha).1).2; omega, fun a ha => (name_ok _ (h a ha).1).1, ho, fun a ha => by
      have w := (h a ha).2.worth (.inl rfl)
      exact ⟨w.tree, w.tame.few, w.few⟩⟩ rfl, by show lb.size ≤ _; omega, rfl⟩⟩
theorem once2 (ns ex : List NodeL) : NamesOnce [(kCpu, ns), (kCount, ex)] := by
  intro j a ha z hz
  match j, ha with
  | 0, _ => simp at hz
  | 1, ha =>
    simp at ha hz
    subst ha hz
    exact ne_cc
  | j + 2, ha => simp at ha
theorem once1 (ex : List NodeL) : NamesOnce [(kCount, ex)] := by
  intro j a ha z hz
  match j, ha with
  | 0, _ => simp at hz
  | j + 1, ha => simp at ha
end Go.Proofs.YtndeihmclecmcaaGreatDoor
