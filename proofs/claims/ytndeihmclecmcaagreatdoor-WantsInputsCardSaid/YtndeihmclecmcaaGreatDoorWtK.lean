/- Package expand: a node, once. -/
import Derived.Test.YtndeihmclecmcaaGreatDoorWtH
namespace Go.Proofs.YtndeihmclecmcaaGreatDoor
open Go.RowKit
set_option linter.unusedVariables false
set_option linter.unusedSimpArgs false
/-- What lies below B stays, and all else but what is around all scopes, rows of wants, and the map G. -/
structure Fr (B : Nat) (G : Option Nat) (w w' : World) : Prop where
  os : w'.os = w.os
  tape : w'.tape = w.tape
  output : w'.output = w.output
  size : w.heap.size ≤ w'.heap.size
  low : ∀ g, g < B → w'.heap[g]? = w.heap[g]?
  block : ∀ g, g < w.heap.size → some g ≠ G → (∀ c t f, w.heap[g]? = some (.cells c t f) → t ≠ 78 ∧ t ≠ 50) → w'.heap[g]? = w.heap[g]?
theorem Fr.refl (B : Nat) (G : Option Nat) (w : World) : Fr B G w w := ⟨rfl, rfl, rfl, Nat.le_refl _, fun _ _ => rfl, fun _ _ _ _ => rfl⟩
theorem Fr.trans {B : Nat} {G : Option Nat} {w w1 w2 : World} (h : Fr B G w w1) (k : Fr B G w1 w2) : Fr B G w w2 :=
  ⟨k.os.trans h.os, k.tape.trans h.tape, k.output.trans h.output, Nat.le_trans h.size k.size, fun g hg => (k.low g hg).trans (h.low g hg), fun g hg hG ht => by
    have e := h.block g hg hG ht
    exact (k.block g (Nat.lt_of_lt_of_le hg h.size) hG (fun c t f hc => ht c t f (by rw [← e]; exact hc))).trans e⟩
theorem Fr.more {B : Nat} {G : Option Nat} {w w' : World} (h : Fr B none w w') : Fr B G w w' := ⟨h.os, h.tape, h.output, h.size, h.low, fun g hg _ ht => h.block g hg (by simp) ht⟩
theorem Fr.of {B : Nat} {G : Option Nat} {w w' : World} (h : Below w.heap.size w w') (hB : B ≤ w.heap.size) : Fr B G w w' := ⟨h.os, h.tape, h.output, h.size, fun g hg => h.block g (by omega), fun g hg _ _ => h.block g hg⟩
theorem Fr.low' {B : Nat} {G : Option Nat} {w w' : World} (h : Fr B G w w') : Below B w w' := ⟨h.os, h.tape, h.output, h.size, h.low⟩
/-- A map of the callee's own does not matter. -/
theorem Fr.new {B : Nat} {G H : Option Nat} {w w1 w2 : World} (h : Fr B G w w1) (k : Fr B H w1 w2) (hn : ∀ g, H = some g → w.heap.size ≤ g) : Fr B G w w2 :=
  ⟨k.os.trans h.os, k.tape.trans h.tape, k.output.trans h.output, Nat.le_trans h.size k.size, fun g hg => (k.low g hg).trans (h.low g hg), fun g hg hG ht => by
    have e := h.block g hg hG ht
    exact (k.block g (Nat.lt_of_lt_of_le hg h.size) (fun q => by have := hn g q.symm; omega) (fun c t f hc => ht c t f (by rw [← e]; exact hc))).trans e⟩
theorem ScAt.fr {B : Nat} {G : Option Nat} {w w' : World} {p : Nat} {av : Value} {lb : ByteArray} {bv : Value} {pf : ByteArray} {gi gn : Nat} (h : ScAt w p av lb bv pf gi gn) (k : Fr B G w w') (hG : some p ≠ G) : ScAt w' p av lb bv pf gi gn :=
  (k.block p h.lt hG (fun c t f hc => by
    have h : w.heap[p]? = _ := h
    rw [h] at hc
    simp only [Option.some.injEq, Obj.cells.injEq] at hc
    obtain ⟨-, rfl, -⟩ := hc
    exact ⟨by decide, by decide⟩)).trans h
theorem ScopeAt.fr {B : Nat} {G : Option Nat} {w w' : World} {g n : Nat} {L : ByteArray → Option VL} (h : ScopeAt w 0 g n L) (k : Fr B G w w') (hG : some g ≠ G) : ScopeAt w' 0 g n L := by
  have hl := h.lt
  obtain ⟨d, hm, hx⟩ := h
  have hm0 := hm
  obtain ⟨es, clock, hb, r⟩ := hm
  have e := k.block g hl hG (fun c t f hc => by rw [hb] at hc; cases hc)
  refine ⟨d, ⟨es, clock, e.trans hb, r⟩, fun x => ⟨(hx x).1, fun v hv => ?_⟩⟩
  obtain ⟨h1, hi, lv, h2, h3⟩ := (hx x).2 v hv
  exact ⟨h1, hi, lv, h2, h3⟩
/-- A declared node. -/
structure WantL where
  name : ByteArray
  parent : ByteArray
  cpu : Int
  mem : Int
  pods : Int
def wantCells (x : WantL) : List Value := [.string x.name, .string x.parent, .int .i64 x.cpu, .int .i64 x.mem, .int .i64 x.pods]
def wantsCells (l : List WantL) : List Value := l.flatMap wantCells
def wantV (x : WantL) : Value := .agg #[.string x.name, .string x.parent, .int .i64 x.cpu, .int .i64 x.mem, .int .i64 x.pods]
/-- What is around all scopes: at block P. -/
def WhAt (B P gd : Nat) (w : World) (beg : Nat) (ws : List WantL) : Prop :=
  B ≤ P ∧ ∃ wv, w.heap[P]? = some (.cells #[.map (some gd), .int .i64 (beg : Int), wv] 78 (0, 0)) ∧ w.ownsRow B 50 5 wv ws.length (wantsCells ws)
theorem WhAt.below {B P gd : Nat} {w w' : World} {beg : Nat} {ws : List WantL} (h : WhAt B P gd w beg ws) (hb : Below w.heap.size w w') : WhAt B P gd w' beg ws := by
  obtain ⟨h1, wv, h2, h3⟩ := h
  exact ⟨h1, wv, (hb.block P (Array.getElem?_eq_some_iff.1 h2).1).trans h2, own_below h3 hb⟩
theorem info_wantW : (Tryz.prog.info? 50).map (fun i => (i.zero, i.size, i.bytes)) = some (some (.agg #[.string ⟨#[]⟩, .string ⟨#[]⟩, .int .i64 0, .int .i64 0, .int .i64 0]), 5, 56) := by kernel_rfl
/-- Scopes within one another, the innermost first; behind the last one what is around all of them. -/
def AroundAt (w : World) (P : Nat) : List (Nat × ByteArray) → Value → Prop
  | [], v => v = .iface 66 (.pointer (some ⟨P, 0, none⟩))
  | (p, lb) :: ps, v => v = .iface 84 (.pointer (some ⟨p, 0, none⟩)) ∧ ∃ av bv pf gi gn, ScAt w p av lb bv pf gi gn ∧ AroundAt w P ps av
theorem AroundAt.fr {B P : Nat} {G : Option Nat} {w w' : World} (k : Fr B G w w') : ∀ {ps : List (Nat × ByteArray)} {v : Value}, (∀ q ∈ ps, some q.1 ≠ G) → AroundAt w P ps v → AroundAt w' P ps v := by
  intro ps
  induction ps with
  | nil => intro v _ h; exact h
  | cons a ps ih =>
    obtain ⟨p, lb⟩ := a
    intro v hG h
    obtain ⟨rfl, av, bv, pf, gi, gn, h1, h2⟩ := h
    exact ⟨rfl, av, bv, pf, gi, gn, h1.fr k (hG (p, lb) (by simp)), ih (fun q hq => hG q (List.mem_cons_of_mem _ hq)) h2⟩
theorem whole_method (name : String) (f : FuncId) (h : (Tryz.prog.info? 66).bind (fun i => (i.methods.find? (·.name == name)).map (fun m => (m.func, m.path.toList.map (fun s => (s.struct, s.index, s.deref))))) = some (some (f, true), []))
    (b : Nat) (W : World) (k : Nat) : (method (k + 1) 66 (.pointer (some ⟨b, 0, none⟩)) name).run Tryz.prog W = .ok (f, .pointer (some ⟨b, 0, none⟩)) W := by
  obtain ⟨i, hi, h⟩ := Option.bind_eq_some_iff.1 h
  obtain ⟨m, hm, h⟩ := Option.map_eq_some_iff.1 h
  simp only [Prod.mk.injEq] at h
  obtain ⟨h3, h4⟩ := h
  have h5 : m.path.toList = [] := by simpa using h4
  unfold method
  simp [go_sem, typeInfo, hi, hm, h3, h5, follow, receiverAt, Place.get]
theorem scope_method (name : String) (h : (Tryz.prog.info? 84).bind (fun i => (i.methods.find? (·.name == name)).map (fun m => (m.func, m.path.toList.map (fun s => (s.struct, s.index, s.deref))))) = some (none, [(74, 0, true)]))
    {b : Nat} {W : World} {T : TypeId} {u : Value} (hc : W.cell? ⟨b, 0, none⟩ = some (.iface T u)) (k : Nat) : (method (k + 1) 84 (.pointer (some ⟨b, 0, none⟩)) name).run Tryz.prog W = (method k T u name).run Tryz.prog W := by
  obtain ⟨i, hi, h⟩ := Option.bind_eq_some_iff.1 h
  obtain ⟨m, hm, h⟩ := Option.map_eq_some_iff.1 h
  simp only [Prod.mk.injEq] at h
  obtain ⟨h3, h4⟩ := h
  obtain ⟨s, tl, h5, h6, h7⟩ := List.map_eq_cons_iff.1 h4
  simp only [Prod.mk.injEq] at h6
  obtain ⟨h6, h8, h9⟩ := h6
  have h10 : tl = [] := by simpa using h7
  subst h10
  rw [method]
  simp [go_sem, typeInfo, hi, hm, h3, h5, follow, h6, h8, h9, receiverAt, Place.get, hc]
theorem around_method (name : String) (f : FuncId) (hw : (Tryz.prog.info? 66).bind (fun i => (i.methods.find? (·.name == name)).map (fun m => (m.func, m.path.toList.map (fun s => (s.struct, s.index, s.deref))))) = some (some (f, true), []))
    (hs : (Tryz.prog.info? 84).bind (fun i => (i.methods.find? (·.name == name)).map (fun m => (m.func, m.path.toList.map (fun s => (s.struct, s.index, s.deref))))) = some (none, [(74, 0, true)]))
    {W : World} {P : Nat} : ∀ {ps : List (Nat × ByteArray)} {v : Value}, AroundAt W P ps v → ∀ k, ps.length < k → ∃ T u, v = .iface T u ∧ (method k T u name).run Tryz.prog W = .ok (f, .pointer (some ⟨P, 0, none⟩)) W := by
  intro ps
  induction ps with
  | nil =>
    intro v h k hk
    obtain ⟨k, rfl⟩ : ∃ j, k = j + 1 := ⟨k - 1, by simp at hk; omega⟩
    exact ⟨_, _, h, whole_method name f hw P W k⟩
  | cons a ps ih =>
    obtain ⟨p, lb⟩ := a
    intro v h k hk
    obtain ⟨k, rfl⟩ : ∃ j, k = j + 1 := ⟨k - 1, by simp at hk; omega⟩
    obtain ⟨rfl, av, bv, pf, gi, gn, h1, h2⟩ := h
    obtain ⟨T, u, rfl, hr⟩ := ih h2 k (by simp at hk; omega)
    exact ⟨_, _, rfl, (scope_method name hs h1.cells.1 k).trans hr⟩
theorem around_declare {W : World} {P : Nat} {ps : List (Nat × ByteArray)} {v : Value} (h : AroundAt W P ps v) (hl : ps.length ≤ 100) : ∃ T u, v = .iface T u ∧ (method 425 T u "doorkeeper/expand.declare").run Tryz.prog W = .ok (257, .pointer (some ⟨P, 0, none⟩)) W :=
  around_method "doorkeeper/expand.declare" _ (by kernel_rfl) (by kernel_rfl) h _ (by omega)
theorem around_begin {W : World} {P : Nat} {ps : List (Nat × ByteArray)} {v : Value} (h : AroundAt W P ps v) (hl : ps.length ≤ 100) : ∃ T u, v = .iface T u ∧ (method 425 T u "doorkeeper/expand.begin").run Tryz.prog W = .ok (256, .pointer (some ⟨P, 0, none⟩)) W :=
  around_method "doorkeeper/expand.begin" _ (by kernel_rfl) (by kernel_rfl) h _ (by omega)
theorem around_define {W : World} {P : Nat} {ps : List (Nat × ByteArray)} {v : Value} (h : AroundAt W P ps v) (hl : ps.length ≤ 100) : ∃ T u, v = .iface T u ∧ (method 425 T u "doorkeeper/expand.define").run Tryz.prog W = .ok (258, .pointer (some ⟨P, 0, none⟩)) W :=
  around_method "doorkeeper/expand.define" _ (by kernel_rfl) (by kernel_rfl) h _ (by omega)
theorem Fr.setP {B P i : Nat} {w : World} {c : Array Value} {f : Nat × Nat} {v : Value} (h0 : B ≤ P) (h1 : w.heap[P]? = some (.cells c 78 f)) : Fr B none w (w.setCell ⟨P, i, none⟩ v) :=
  ⟨rfl, rfl, rfl, by simp [World.setCell], fun g hg => heap_setCell_other w ⟨P, i, none⟩ g v (by show g ≠ P; omega), fun g hg _ ht => heap_setCell_other w ⟨P, i, none⟩ g v (fun e => by
    have e : g = P := e
    subst e
    exact (ht _ _ _ h1).1 rfl)⟩
theorem row_neP {w : World} {B e z n P : Nat} {v : Value} {xs : List Value} {c : Array Value} {t : TypeId} {f : Nat × Nat} (h : w.ownsRow B e z v n xs) (h1 : w.heap[P]? = some (.cells c t f)) (ht : t ≠ e) : ∀ g, v.ownBlock = some g → g ≠ P := by
  rintro g hg rfl
  obtain ⟨c', hc⟩ := own_typeW h hg
  rw [h1] at hc
  simp only [Option.some.injEq, Obj.cells.injEq] at hc
  exact ht hc.2.1
theorem grown_drewW {X Y : World} {row : Option Nat} (h : X.drew.grownBy Y row) : X.grownBy Y row := ⟨h.os, h.tape, h.output, h.size, h.block⟩
theorem declare_end {B P gd beg : Nat} {w wa w6 : World} {ws : List WantL} {x : WantL} {wo : Option Addr} {wc gg cc : Nat} {O : Obj} (h0 : B ≤ P) (hB : B ≤ wa.heap.size) (h4 : ¬ ws.length = 120)
    (H1 : w.heap[P]? = some (.cells #[.map (some gd), .int .i64 (beg : Int), .slice wo ws.length wc] 78 (0, 0))) (H2 : w.ownsRow B 50 5 (.slice wo ws.length wc) ws.length (wantsCells ws))
    (BA : Below w.heap.size w wa) (BR : Below wa.heap.size wa (wa.alloc O)) (hgrow : (wa.alloc O).grownBy w6 (Value.slice wo ws.length wc).ownBlock)
    (hown : w6.ownsRow B 50 5 (.slice (some ⟨gg, 0, none⟩) (ws.length + 1) cc) (ws.length + 1) (wantsCells ws ++ [.string x.name, .string x.parent, .int .i64 x.cpu, .int .i64 x.mem, .int .i64 x.pods]))
    (H6 : w6.heap[P]? = some (.cells #[.map (some gd), .int .i64 (beg : Int), .slice wo ws.length wc] 78 (0, 0))) :
    Fr B none w (w6.setCell ⟨P, 2, none⟩ (.slice (some ⟨gg, 0, none⟩) (ws.length + 1) cc)) ∧ (ws.length = 120 → Ending.returned (.int .i64 0) = .returned (.int .i64 4)) ∧ (ws.length < 120 → Ending.returned (.int .i64 0) = .returned (.int .i64 0) ∧ WhAt B P gd (w6.setCell ⟨P, 2, none⟩ (.slice (some ⟨gg, 0, none⟩) (ws.length + 1) cc)) beg (ws ++ [x])) := by
  have NP6 := row_neP hown H6 (by decide)
  have B2 := below_tr BA BR
  have hBw : ∀ g, g < B → g < w.heap.size := fun g hg => by
    have := (Array.getElem?_eq_some_iff.1 H1).1
    omega
  have F6 : Fr B none w w6 := by
    have hs := B2.size
    refine ⟨hgrow.os.trans B2.os, hgrow.tape.trans B2.tape, hgrow.output.trans B2.output, Nat.le_trans hs hgrow.size, fun g hg => ?_, fun g hg _ ht => ?_⟩
    · refine (hgrow.block g (by have := hBw g hg; omega) (fun q => ?_)).trans (B2.block g (hBw g hg))
      have := (World.ownsRow.lt H2 g q.symm).1
      omega
    · refine (hgrow.block g (by omega) (fun q => ?_)).trans (B2.block g hg)
      obtain ⟨c, hc⟩ := own_typeW H2 q.symm
      exact (ht _ _ _ hc).2 rfl
  refine ⟨F6.trans (Fr.setP h0 H6), fun h => absurd h h4, fun _ => ⟨rfl, h0, .slice (some ⟨gg, 0, none⟩) (ws.length + 1) cc, ?_, ?_⟩⟩
  · rw [heap_setCell_same w6 _ 2 _ _ _ H6]
    rfl
  · refine own_heapW ?_ fun g hg => heap_setCell_other w6 ⟨P, 2, none⟩ g _ (NP6 g hg)
    rw [List.length_append]
    have e : wantsCells (ws ++ [x]) = wantsCells ws ++ [.string x.name, .string x.parent, .int .i64 x.cpu, .int .i64 x.mem, .int .i64 x.pods] := by simp [wantsCells, wantCells]
    rw [e]
    exact hown
section
variable (w : World)
set_option maxHeartbeats 1000000 in
set_option maxRecDepth 20000 in
theorem pbegin (B P gd beg : Nat) (ws : List WantL) (h : WhAt B P gd w beg ws) (hb : beg ≤ 400) :
    Calls Tryz.prog 256 #[.pointer (some ⟨P, 0, none⟩)] w fun e w' => (beg = 400 → e = .returned (.int .i64 4) ∧ w = w') ∧ (beg < 400 → e = .returned (.int .i64 0) ∧ Fr B none w w' ∧ WhAt B P gd w' (beg + 1) ws) := by
  obtain ⟨h0, wv, h1, h2⟩ := h
  have H1 := Lib.hid h1
  have H2 := Lib.hid h2
  have c1 := cell_of_row _ _ 1 _ _ _ h1
  have f1 := frozen_of_row _ _ 1 _ _ h1
  simp at c1
  clear h1 h2
  by_cases h4 : beg = 400
  · have hne : ((beg : Int) == 400) = true := by simp; omega
    go_enter Tryz.func256, Tryz.ntmps256
    go_wp2_with fail
    go_ret
    exact ⟨fun _ => ⟨rfl, rfl⟩, fun h => absurd h4 (by omega)⟩
  · have hne : ((beg : Int) == 400) = false := by simp; omega
    go_enter Tryz.func256, Tryz.ntmps256
    go_wp2_with fail
    go_ret
    refine ⟨fun h => absurd h h4, fun _ => ⟨rfl, Fr.setP h0 H1.out, h0, wv, ?_, ?_⟩⟩
    · rw [heap_setCell_same w _ 1 _ _ _ H1.out]
      rfl
    · exact own_heapW H2.out fun g hg => heap_setCell_other w ⟨P, 1, none⟩ g _ (row_neP H2.out H1.out (by decide) g hg)
set_option maxHeartbeats 1000000 in
set_option maxRecDepth 20000 in
theorem pdeclare (B P gd beg : Nat) (ws : List WantL) (h : WhAt B P gd w beg ws) (x : WantL) (hl : ws.length ≤ 120) (hB : B ≤ w.heap.size) :
    Calls Tryz.prog 257 #[.pointer (some ⟨P, 0, none⟩), wantV x] w fun e w' => Fr B none w w' ∧ (ws.length = 120 → e = .returned (.int .i64 4)) ∧ (ws.length < 120 → e = .returned (.int .i64 0) ∧ WhAt B P gd w' beg (ws ++ [x])) := by
  obtain ⟨i0, hi0, hz0, hz1, hz2⟩ := info_parts info_wantW
  obtain ⟨h0, wv, h1, h2⟩ := h
  have H1 := Lib.hid h1
  have H2 := Lib.hid h2
  obtain ⟨wo, wc, rfl⟩ := own_len h2
  unfold wantV
  have BA := Lib.hid (below_al (Below.refl w.heap.size w) (.cells #[.string x.name, .string x.parent, .int .i64 x.cpu, .int .i64 x.mem, .int .i64 x.pods] 50))
  have H1a := Lib.hid ((BA.out.block P (Array.getElem?_eq_some_iff.1 h1).1).trans h1)
  have c2 := cell_of_row _ _ 2 _ _ _ H1a.out
  simp at c2
  have NP := Lib.hid (row_neP h2 h1 (by decide))
  clear h1 h2
  by_cases h4 : ws.length = 120
  · have hne : ((ws.length : Int) == 120) = true := by simp; omega
    clear hi0 hz0 hz1 hz2
    go_enter Tryz.func257, Tryz.ntmps257
    go_wp2_with fail
    go_ret
    exact ⟨Fr.of BA.out hB, fun _ => rfl, fun h => absurd h4 (by omega)⟩
  · have hne : ((ws.length : Int) == 120) = false := by simp; omega
    have NB := Lib.hid (heap_alloc_new w (.cells #[.string x.name, .string x.parent, .int .i64 x.cpu, .int .i64 x.mem, .int .i64 x.pods] 50))
    have O1 := Lib.hid (H2.out.alloc (.cells #[.string x.name, .string x.parent, .int .i64 x.cpu, .int .i64 x.mem, .int .i64 x.pods] 50))
    have PL := Lib.hid (Array.getElem?_eq_some_iff.1 H1.out).1
    have SZ := Lib.hid (show (w.alloc (.cells #[.string x.name, .string x.parent, .int .i64 x.cpu, .int .i64 x.mem, .int .i64 x.pods] 50)).heap.size = w.heap.size + 1 by simp)
    have HF := Lib.hid (show ws.length + 1 ≤ maxLen ∧ (ws.length + 1) * 56 ≤ 140737488355328 by unfold maxLen; omega)
    go_enter Tryz.func257, Tryz.ntmps257
    go_wp2_with fail
    generalize w.alloc (.cells #[.string x.name, .string x.parent, .int .i64 x.cpu, .int .i64 x.mem, .int .i64 x.pods] 50) = wa at *
    have b0 := cell_of_row _ _ 0 _ _ _ NB.out
    have b1 := cell_of_row _ _ 1 _ _ _ NB.out
    have b2 := cell_of_row _ _ 2 _ _ _ NB.out
    have b3 := cell_of_row _ _ 3 _ _ _ NB.out
    have b4 := cell_of_row _ _ 4 _ _ _ NB.out
    simp at b0 b1 b2 b3 b4
    have BR := Lib.hid (below_al (Below.refl wa.heap.size wa) (.cells #[.string x.name, .string x.parent, .int .i64 x.cpu, .int .i64 x.mem, .int .i64 x.pods] 50))
    have c2r := hold BR.out c2
    have NW := Lib.hid (news_new wa #[.string x.name, .string x.parent, .int .i64 x.cpu, .int .i64 x.mem, .int .i64 x.pods] 50)
    have hBa : B ≤ wa.heap.size := by have := SZ.out; omega
    clear hB
    go_region_law (first | (refine step_append_lies _ (by rfl) _ _ _ (by rfl) B 50 i0 _ 5 56 Tryz.underlying42 hi0 hz0 hz1 hz2 rfl (by omega) (.slice wo ws.length wc) ws.length (wantsCells ws) (by rfl) (by exact (World.ownsRow.alloc O1.out _)) ⟨wa.heap.size, 0, none⟩ 1 1 [.string x.name, .string x.parent, .int .i64 x.cpu, .int .i64 x.mem, .int .i64 x.pods] (by rfl) (by rfl) (by exact NW.out) (by simp [Value.oneCell']) (by omega) HF.out.1 HF.out.2 (by simp; omega) (wa.heap.size + 1) (by simp) ?_; intro gg cc w6 hown hgrow hat hlt; have hgr := grown_drewW hgrow; have H6 := Lib.hid ((hgr.block P (by have := PL.out; have := SZ.out; simp; omega) (fun q => absurd rfl (NP.out _ q.symm))).trans ((BR.out.block P (by have := PL.out; have := SZ.out; omega)).trans H1a.out)); have c6 := cell_of_row _ _ 2 _ _ _ H6.out; have f6 := frozen_of_row _ _ 2 _ _ H6.out; simp at c6; have HG6 := Lib.hid hgr; have HO6 := Lib.hid hown; clear hgr hgrow hown))
    all_goals go_wp2
    all_goals go_ret
    all_goals (have DE := declare_end (x := x) h0 hBa h4 H1.out H2.out BA.out BR.out HG6.out HO6.out H6.out; first | exact DE | exact ⟨DE.1, DE.2.2⟩)
set_option maxRecDepth 20000 in
theorem pdeclare_full (B P gd beg : Nat) (ws : List WantL) (h : WhAt B P gd w beg ws) (x : WantL) (h4 : ws.length = 120) :
    Calls Tryz.prog 257 #[.pointer (some ⟨P, 0, none⟩), wantV x] w fun e w' => e = .returned (.int .i64 4) ∧ Below w.heap.size w w' := by
  obtain ⟨h0, wv, h1, h2⟩ := h
  obtain ⟨wo, wc, rfl⟩ := own_len h2
  unfold wantV
  have BA := Lib.hid (below_al (Below.refl w.heap.size w) (.cells #[.string x.name, .string x.parent, .int .i64 x.cpu, .int .i64 x.mem, .int .i64 x.pods] 50))
  have c2 := cell_of_row _ _ 2 _ _ _ ((BA.out.block P (Array.getElem?_eq_some_iff.1 h1).1).trans h1)
  simp at c2
  have hne : ((ws.length : Int) == 120) = true := by simp; omega
  clear h1 h2
  go_enter Tryz.func257, Tryz.ntmps257
  go_wp2_with fail
  go_ret
  exact ⟨rfl, BA.out⟩
end
end Go.Proofs.YtndeihmclecmcaaGreatDoor
namespace Go.Proofs.YtndeihmclecmcaaGreatDoor
open Go.RowKit
set_option linter.unusedVariables false
set_option linter.unusedSimpArgs false
def kParent : ByteArray := ⟨#[112, 97, 114, 101, 110, 116]⟩
def kCpu : ByteArray := ⟨#[99, 112, 117]⟩
def kMem : ByteArray := ⟨#[109, 101, 109]⟩
def kPods : ByteArray := ⟨#[112, 111, 100, 115]⟩
def kCount : ByteArray := ⟨#[99, 111, 117, 110, 116]⟩
def setAttr (pf a : ByteArray) (v : VL) (x : WantL) : WantL × Int :=
  if a = kParent then ({ x with parent := (parentR pf v).1 }, (parentR pf v).2)
  else if a = kCpu then ({ x with cpu := (amountR v).1 }, (amountR v).2)
  else if a = kMem then ({ x with mem := (amountR v).1 }, (amountR v).2)
  else if a = kPods then ({ x with pods := (amountR v).1 }, (amountR v).2)
  else (x, 0)
def stepAttr (pf a : ByteArray) (r : VL × Int) (x : WantL) : WantL × Int := if r.2 ≠ 0 then (x, r.2) else setAttr pf a r.1 x
/-- A want in a block of its own. -/
def WBox (w : World) (b : Nat) (x : WantL) : Prop := w.heap[b]? = some (.cells #[.string x.name, .string x.parent, .int .i64 x.cpu, .int .i64 x.mem, .int .i64 x.pods] 50 (0, 0))
theorem WBox.lt {w : World} {b : Nat} {x : WantL} (h : WBox w b x) : b < w.heap.size := (Array.getElem?_eq_some_iff.1 h).1
theorem WBox.below {w w' : World} {b : Nat} {x : WantL} (h : WBox w b x) (k : Below w.heap.size w w') : WBox w' b x := (k.block b h.lt).trans h
theorem WBox.cells {w : World} {b : Nat} {x : WantL} (h : WBox w b x) : (w.cell? ⟨b, 0, none⟩ = some (.string x.name) ∧ w.cell? ⟨b, 1, none⟩ = some (.string x.parent) ∧ w.cell? ⟨b, 2, none⟩ = some (.int .i64 x.cpu) ∧ w.cell? ⟨b, 3, none⟩ = some (.int .i64 x.mem) ∧ w.cell? ⟨b, 4, none⟩ = some (.int .i64 x.pods)) ∧
    w.frozen? ⟨b, 1, none⟩ = false ∧ w.frozen? ⟨b, 2, none⟩ = false ∧ w.frozen? ⟨b, 3, none⟩ = false ∧ w.frozen? ⟨b, 4, none⟩ = false :=
  ⟨⟨cell_of_row _ _ 0 _ _ _ h, cell_of_row _ _ 1 _ _ _ h, cell_of_row _ _ 2 _ _ _ h, cell_of_row _ _ 3 _ _ _ h, cell_of_row _ _ 4 _ _ _ h⟩, frozen_of_row _ _ 1 _ _ h, frozen_of_row _ _ 2 _ _ h, frozen_of_row _ _ 3 _ _ h, frozen_of_row _ _ 4 _ _ h⟩
/-- Nothing that lay there has turned but block b. -/
theorem grown_setW {w V : World} {b o : Nat} {u : Value} (h : Below w.heap.size w V) (hb : b < w.heap.size) : w.grownBy (V.setCell ⟨b, o, none⟩ u) (some b) :=
  ⟨h.os, h.tape, h.output, by simpa [World.setCell] using h.size, fun i hi hne => (heap_setCell_other V ⟨b, o, none⟩ i u (by simp at hne; simpa using hne)).trans (h.block i hi)⟩
theorem grown_ofW {w V : World} {b : Nat} (h : Below w.heap.size w V) : w.grownBy V (some b) := ⟨h.os, h.tape, h.output, h.size, fun i hi _ => h.block i hi⟩
def turnV (p : Nat) (nm : ByteArray) (hv : Value) : Value := .agg #[.pointer (some ⟨p, 0, none⟩), .string nm, hv]
section
variable (w : World)
set_option maxHeartbeats 4000000 in
set_option maxRecDepth 20000 in
theorem pstepAttr (p gi gn nn : Nat) (ar : Value) (lb pf : ByteArray) (bv : Value) (L : ByteArray → Option VL) (hv : Value) (nm : ByteArray) (hd : List (ByteArray × VL)) (a : ByteArray × List NodeL) (no : Option Addr) (nc : Nat) (r : VL × Int)
    (hs : ScAt w p ar lb bv pf gi gn) (hn : ScopeAt w 0 gn nn L) (hns : NodesRd w (.slice no a.2.length nc) a.2) (hh : BindsRd w 0 hv hd) (hw : Worth L hd a.2 r) (ht : TabOK w) (he : ErrVar w) (b : Nat) (x : WantL) (hb : WBox w b x) (hpf : pf.size ≤ 100000) (hrt : r.1.text.size ≤ 100000) :
    Calls Tryz.prog 76 #[turnV p nm hv, .agg #[.string a.1, .slice no a.2.length nc], .pointer (some ⟨b, 0, none⟩)] w fun e w' => e = .returned (.int .i64 (stepAttr pf a.1 r x).2) ∧ w.grownBy w' (some b) ∧ WBox w' b (stepAttr pf a.1 r x).1 := by
  have B0 := Lib.hid (below_al (below_al (Below.refl w.heap.size w) (.cells #[.pointer (some ⟨p, 0, none⟩), .string nm, hv] 120)) (.cells #[.string a.1, .slice no a.2.length nc] 26))
  have NT := Lib.hid ((heap_alloc_old (w.alloc (.cells #[.pointer (some ⟨p, 0, none⟩), .string nm, hv] 120)) (.cells #[.string a.1, .slice no a.2.length nc] 26) (by simp)).trans (heap_alloc_new w (.cells #[.pointer (some ⟨p, 0, none⟩), .string nm, hv] 120)))
  have NA := Lib.hid (heap_at (w := w.alloc (.cells #[.pointer (some ⟨p, 0, none⟩), .string nm, hv] 120)) (O := .cells #[.string a.1, .slice no a.2.length nc] 26) (g := w.heap.size + 1) (by simp))
  have PV := Lib.hid (ptvalue _ p gi gn nn ar lb pf bv L _ hv nm hd a.2 r (hs.below B0.out) (hn.below B0.out) (hns.below B0.out) (hh.below B0.out) hw (ht.below B0.out) (he.below B0.out he.lt))
  have S0 := Lib.hid (hs.below B0.out)
  have HBX := Lib.hid (hb.below B0.out)
  have HBL := Lib.hid hb.lt
  obtain ⟨ho, hc, rfl, -⟩ := hh
  unfold turnV
  clear hs hn hns hw ht he hb
  by_cases h2 : r.2 = 0
  · have g2 : (r.2 != 0) = false := by simpa using h2
    have SE := Lib.hid (show stepAttr pf a.1 r x = setAttr pf a.1 r.1 x by unfold stepAttr; rw [if_neg (by simpa using h2)])
    rw [SE.out]
    clear h2 SE
    by_cases hparent : a.1 = kParent
    · have eparent : (a.1.toList == ([112, 97, 114, 101, 110, 116] : List UInt8)) = true := str_is hparent
      have SE := Lib.hid (show setAttr pf a.1 r.1 x = ({ x with parent := (parentR pf r.1).1 }, (parentR pf r.1).2) by unfold setAttr; rw [if_pos hparent])
      rw [SE.out]
      clear hparent  SE
      go_enter Tryz.func76, Tryz.ntmps76
      go_wp2_with fail
      generalize (w.alloc (.cells #[.pointer (some ⟨p, 0, none⟩), .string nm, .slice ho hd.length hc] 120)).alloc (.cells #[.string a.1, .slice no a.2.length nc] 26) = wa at *
      refine PV.out.mono ?_
      rintro e w1 ⟨rfl, hb1⟩
      have B1 := Lib.hid (below_tr B0.out hb1)
      have t0 := cell_of_row _ _ 0 _ _ _ ((hb1.block _ (Array.getElem?_eq_some_iff.1 NT.out).1).trans NT.out)
      have a0 := cell_of_row _ _ 0 _ _ _ ((hb1.block _ (Array.getElem?_eq_some_iff.1 NA.out).1).trans NA.out)
      simp at t0 a0
      have VB := Lib.hid (heap_alloc_new w1 (.cells #[.int .i64 r.1.kind, .int .i64 r.1.num, .string r.1.text, .slice none 0 0] 39))
      have B2 := Lib.hid (below_al (Below.refl w1.heap.size w1) (.cells #[.int .i64 r.1.kind, .int .i64 r.1.num, .string r.1.text, .slice none 0 0] 39))
      replace t0 := hold B2.out t0
      replace a0 := hold B2.out a0
      have S2 := Lib.hid ((S0.out.below hb1).below B2.out)
      have X2 := Lib.hid ((HBX.out.below hb1).below B2.out)
      have B3 := Lib.hid (below_tr B1.out B2.out)
      clear hb1 PV
      go_wp2_with fail
      generalize w1.alloc (.cells #[.int .i64 r.1.kind, .int .i64 r.1.num, .string r.1.text, .slice none 0 0] 39) = w2 at *
      have PP := Lib.hid (pparent w2 p gi gn ar lb pf bv S2.out r.1 hrt hpf)
      unfold valV at PP
      refine PP.out.mono ?_
      rintro e w3 ⟨rfl, hb3⟩
      obtain ⟨⟨x0, x1, x2, x3, x4⟩, f1, f2, f3, f4⟩ := (X2.out.below hb3).cells
      have X3 := Lib.hid (X2.out.below hb3)
      have B4 := Lib.hid (below_tr B3.out hb3)
      clear hb3 PP
      skip
      skip
      go_wp2_with fail
      go_ret
      refine ⟨rfl, grown_setW B4.out HBL.out, ?_⟩
      unfold WBox
      rw [heap_setCell_same w3 _ 1 _ _ _ X3.out]
      rfl
    · skip
      by_cases hcpu : a.1 = kCpu
      · have ecpu : (a.1.toList == ([99, 112, 117] : List UInt8)) = true := str_is hcpu
        have nparent : (a.1.toList == ([112, 97, 114, 101, 110, 116] : List UInt8)) = false := str_ne hparent
        have SE := Lib.hid (show setAttr pf a.1 r.1 x = ({ x with cpu := (amountR r.1).1 }, (amountR r.1).2) by unfold setAttr; rw [if_neg hparent]; rw [if_pos hcpu])
        rw [SE.out]
        clear hcpu hparent SE
        go_enter Tryz.func76, Tryz.ntmps76
        go_wp2_with fail
        generalize (w.alloc (.cells #[.pointer (some ⟨p, 0, none⟩), .string nm, .slice ho hd.length hc] 120)).alloc (.cells #[.string a.1, .slice no a.2.length nc] 26) = wa at *
        refine PV.out.mono ?_
        rintro e w1 ⟨rfl, hb1⟩
        have B1 := Lib.hid (below_tr B0.out hb1)
        have t0 := cell_of_row _ _ 0 _ _ _ ((hb1.block _ (Array.getElem?_eq_some_iff.1 NT.out).1).trans NT.out)
        have a0 := cell_of_row _ _ 0 _ _ _ ((hb1.block _ (Array.getElem?_eq_some_iff.1 NA.out).1).trans NA.out)
        simp at t0 a0
        have VB := Lib.hid (heap_alloc_new w1 (.cells #[.int .i64 r.1.kind, .int .i64 r.1.num, .string r.1.text, .slice none 0 0] 39))
        have B2 := Lib.hid (below_al (Below.refl w1.heap.size w1) (.cells #[.int .i64 r.1.kind, .int .i64 r.1.num, .string r.1.text, .slice none 0 0] 39))
        replace t0 := hold B2.out t0
        replace a0 := hold B2.out a0
        have S2 := Lib.hid ((S0.out.below hb1).below B2.out)
        have X2 := Lib.hid ((HBX.out.below hb1).below B2.out)
        have B3 := Lib.hid (below_tr B1.out B2.out)
        clear hb1 PV
        go_wp2_with fail
        generalize w1.alloc (.cells #[.int .i64 r.1.kind, .int .i64 r.1.num, .string r.1.text, .slice none 0 0] 39) = w2 at *
        have PP := Lib.hid (pamount w2 r.1)
        unfold valV at PP
        refine PP.out.mono ?_
        rintro e w3 ⟨rfl, hb3⟩
        obtain ⟨⟨x0, x1, x2, x3, x4⟩, f1, f2, f3, f4⟩ := (X2.out.below hb3).cells
        have X3 := Lib.hid (X2.out.below hb3)
        have B4 := Lib.hid (below_tr B3.out hb3)
        clear hb3 PP
        skip
        skip
        go_wp2_with fail
        go_ret
        refine ⟨rfl, grown_setW B4.out HBL.out, ?_⟩
        unfold WBox
        rw [heap_setCell_same w3 _ 2 _ _ _ X3.out]
        rfl
      · skip
        by_cases hmem : a.1 = kMem
        · have emem : (a.1.toList == ([109, 101, 109] : List UInt8)) = true := str_is hmem
          have nparent : (a.1.toList == ([112, 97, 114, 101, 110, 116] : List UInt8)) = false := str_ne hparent
          have ncpu : (a.1.toList == ([99, 112, 117] : List UInt8)) = false := str_ne hcpu
          have SE := Lib.hid (show setAttr pf a.1 r.1 x = ({ x with mem := (amountR r.1).1 }, (amountR r.1).2) by unfold setAttr; rw [if_neg hparent]; rw [if_neg hcpu]; rw [if_pos hmem])
          rw [SE.out]
          clear hmem hparent hcpu SE
          go_enter Tryz.func76, Tryz.ntmps76
          go_wp2_with fail
          generalize (w.alloc (.cells #[.pointer (some ⟨p, 0, none⟩), .string nm, .slice ho hd.length hc] 120)).alloc (.cells #[.string a.1, .slice no a.2.length nc] 26) = wa at *
          refine PV.out.mono ?_
          rintro e w1 ⟨rfl, hb1⟩
          have B1 := Lib.hid (below_tr B0.out hb1)
          have t0 := cell_of_row _ _ 0 _ _ _ ((hb1.block _ (Array.getElem?_eq_some_iff.1 NT.out).1).trans NT.out)
          have a0 := cell_of_row _ _ 0 _ _ _ ((hb1.block _ (Array.getElem?_eq_some_iff.1 NA.out).1).trans NA.out)
          simp at t0 a0
          have VB := Lib.hid (heap_alloc_new w1 (.cells #[.int .i64 r.1.kind, .int .i64 r.1.num, .string r.1.text, .slice none 0 0] 39))
          have B2 := Lib.hid (below_al (Below.refl w1.heap.size w1) (.cells #[.int .i64 r.1.kind, .int .i64 r.1.num, .string r.1.text, .slice none 0 0] 39))
          replace t0 := hold B2.out t0
          replace a0 := hold B2.out a0
          have S2 := Lib.hid ((S0.out.below hb1).below B2.out)
          have X2 := Lib.hid ((HBX.out.below hb1).below B2.out)
          have B3 := Lib.hid (below_tr B1.out B2.out)
          clear hb1 PV
          go_wp2_with fail
          generalize w1.alloc (.cells #[.int .i64 r.1.kind, .int .i64 r.1.num, .string r.1.text, .slice none 0 0] 39) = w2 at *
          have PP := Lib.hid (pamount w2 r.1)
          unfold valV at PP
          refine PP.out.mono ?_
          rintro e w3 ⟨rfl, hb3⟩
          obtain ⟨⟨x0, x1, x2, x3, x4⟩, f1, f2, f3, f4⟩ := (X2.out.below hb3).cells
          have X3 := Lib.hid (X2.out.below hb3)
          have B4 := Lib.hid (below_tr B3.out hb3)
          clear hb3 PP
          skip
          skip
          go_wp2_with fail
          go_ret
          refine ⟨rfl, grown_setW B4.out HBL.out, ?_⟩
          unfold WBox
          rw [heap_setCell_same w3 _ 3 _ _ _ X3.out]
          rfl
        · skip
          by_cases hpods : a.1 = kPods
          · have epods : (a.1.toList == ([112, 111, 100, 115] : List UInt8)) = true := str_is hpods
            have nparent : (a.1.toList == ([112, 97, 114, 101, 110, 116] : List UInt8)) = false := str_ne hparent
            have ncpu : (a.1.toList == ([99, 112, 117] : List UInt8)) = false := str_ne hcpu
            have nmem : (a.1.toList == ([109, 101, 109] : List UInt8)) = false := str_ne hmem
            have SE := Lib.hid (show setAttr pf a.1 r.1 x = ({ x with pods := (amountR r.1).1 }, (amountR r.1).2) by unfold setAttr; rw [if_neg hparent]; rw [if_neg hcpu]; rw [if_neg hmem]; rw [if_pos hpods])
            rw [SE.out]
            clear hpods hparent hcpu hmem SE
            go_enter Tryz.func76, Tryz.ntmps76
            go_wp2_with fail
            generalize (w.alloc (.cells #[.pointer (some ⟨p, 0, none⟩), .string nm, .slice ho hd.length hc] 120)).alloc (.cells #[.string a.1, .slice no a.2.length nc] 26) = wa at *
            refine PV.out.mono ?_
            rintro e w1 ⟨rfl, hb1⟩
            have B1 := Lib.hid (below_tr B0.out hb1)
            have t0 := cell_of_row _ _ 0 _ _ _ ((hb1.block _ (Array.getElem?_eq_some_iff.1 NT.out).1).trans NT.out)
            have a0 := cell_of_row _ _ 0 _ _ _ ((hb1.block _ (Array.getElem?_eq_some_iff.1 NA.out).1).trans NA.out)
            simp at t0 a0
            have VB := Lib.hid (heap_alloc_new w1 (.cells #[.int .i64 r.1.kind, .int .i64 r.1.num, .string r.1.text, .slice none 0 0] 39))
            have B2 := Lib.hid (below_al (Below.refl w1.heap.size w1) (.cells #[.int .i64 r.1.kind, .int .i64 r.1.num, .string r.1.text, .slice none 0 0] 39))
            replace t0 := hold B2.out t0
            replace a0 := hold B2.out a0
            have S2 := Lib.hid ((S0.out.below hb1).below B2.out)
            have X2 := Lib.hid ((HBX.out.below hb1).below B2.out)
            have B3 := Lib.hid (below_tr B1.out B2.out)
            clear hb1 PV
            go_wp2_with fail
            generalize w1.alloc (.cells #[.int .i64 r.1.kind, .int .i64 r.1.num, .string r.1.text, .slice none 0 0] 39) = w2 at *
            have PP := Lib.hid (pamount w2 r.1)
            unfold valV at PP
            refine PP.out.mono ?_
            rintro e w3 ⟨rfl, hb3⟩
            obtain ⟨⟨x0, x1, x2, x3, x4⟩, f1, f2, f3, f4⟩ := (X2.out.below hb3).cells
            have X3 := Lib.hid (X2.out.below hb3)
            have B4 := Lib.hid (below_tr B3.out hb3)
            clear hb3 PP
            skip
            skip
            go_wp2_with fail
            go_ret
            refine ⟨rfl, grown_setW B4.out HBL.out, ?_⟩
            unfold WBox
            rw [heap_setCell_same w3 _ 4 _ _ _ X3.out]
            rfl
          · have nparent : (a.1.toList == ([112, 97, 114, 101, 110, 116] : List UInt8)) = false := str_ne hparent
            have ncpu : (a.1.toList == ([99, 112, 117] : List UInt8)) = false := str_ne hcpu
            have nmem : (a.1.toList == ([109, 101, 109] : List UInt8)) = false := str_ne hmem
            have npods : (a.1.toList == ([112, 111, 100, 115] : List UInt8)) = false := str_ne hpods
            have SE := Lib.hid (show setAttr pf a.1 r.1 x = (x, 0) by unfold setAttr; rw [if_neg hparent]; rw [if_neg hcpu]; rw [if_neg hmem]; rw [if_neg hpods])
            rw [SE.out]
            clear hparent hcpu hmem hpods SE
            go_enter Tryz.func76, Tryz.ntmps76
            go_wp2_with fail
            generalize (w.alloc (.cells #[.pointer (some ⟨p, 0, none⟩), .string nm, .slice ho hd.length hc] 120)).alloc (.cells #[.string a.1, .slice no a.2.length nc] 26) = wa at *
            refine PV.out.mono ?_
            rintro e w1 ⟨rfl, hb1⟩
            have B1 := Lib.hid (below_tr B0.out hb1)
            have t0 := cell_of_row _ _ 0 _ _ _ ((hb1.block _ (Array.getElem?_eq_some_iff.1 NT.out).1).trans NT.out)
            have a0 := cell_of_row _ _ 0 _ _ _ ((hb1.block _ (Array.getElem?_eq_some_iff.1 NA.out).1).trans NA.out)
            simp at t0 a0
            have VB := Lib.hid (heap_alloc_new w1 (.cells #[.int .i64 r.1.kind, .int .i64 r.1.num, .string r.1.text, .slice none 0 0] 39))
            have B2 := Lib.hid (below_al (Below.refl w1.heap.size w1) (.cells #[.int .i64 r.1.kind, .int .i64 r.1.num, .string r.1.text, .slice none 0 0] 39))
            replace t0 := hold B2.out t0
            replace a0 := hold B2.out a0
            have S2 := Lib.hid ((S0.out.below hb1).below B2.out)
            have X2 := Lib.hid ((HBX.out.below hb1).below B2.out)
            have B3 := Lib.hid (below_tr B1.out B2.out)
            clear hb1 PV
            go_wp2_with fail
            go_ret
            exact ⟨by first | rfl | (show Ending.returned (.int .i64 r.2) = _; rw [show r.2 = 0 by simpa using g2]), grown_ofW B3.out, X2.out⟩
  · have g2 : (r.2 != 0) = true := by simpa using h2
    have SE := Lib.hid (show stepAttr pf a.1 r x = (x, r.2) by unfold stepAttr; rw [if_pos h2])
    rw [SE.out]
    clear h2 SE
    go_enter Tryz.func76, Tryz.ntmps76
    go_wp2_with fail
    generalize (w.alloc (.cells #[.pointer (some ⟨p, 0, none⟩), .string nm, .slice ho hd.length hc] 120)).alloc (.cells #[.string a.1, .slice no a.2.length nc] 26) = wa at *
    refine PV.out.mono ?_
    rintro e w1 ⟨rfl, hb1⟩
    have B1 := Lib.hid (below_tr B0.out hb1)
    have t0 := cell_of_row _ _ 0 _ _ _ ((hb1.block _ (Array.getElem?_eq_some_iff.1 NT.out).1).trans NT.out)
    have a0 := cell_of_row _ _ 0 _ _ _ ((hb1.block _ (Array.getElem?_eq_some_iff.1 NA.out).1).trans NA.out)
    simp at t0 a0
    have VB := Lib.hid (heap_alloc_new w1 (.cells #[.int .i64 r.1.kind, .int .i64 r.1.num, .string r.1.text, .slice none 0 0] 39))
    have B2 := Lib.hid (below_al (Below.refl w1.heap.size w1) (.cells #[.int .i64 r.1.kind, .int .i64 r.1.num, .string r.1.text, .slice none 0 0] 39))
    replace t0 := hold B2.out t0
    replace a0 := hold B2.out a0
    have S2 := Lib.hid ((S0.out.below hb1).below B2.out)
    have X2 := Lib.hid ((HBX.out.below hb1).below B2.out)
    have B3 := Lib.hid (below_tr B1.out B2.out)
    clear hb1 PV
    go_wp2_with fail
    go_ret
    exact ⟨rfl, grown_ofW B3.out, X2.out⟩
end
end Go.Proofs.YtndeihmclecmcaaGreatDoor
namespace Go.Proofs.YtndeihmclecmcaaGreatDoor
open Go.RowKit
set_option linter.unusedVariables false
set_option linter.unusedSimpArgs false
def nodeGo (pf : ByteArray) (V : List NodeL → VL × Int) : List (ByteArray × List NodeL) → WantL → WantL × Int
  | [], x => (x, 0)
  | a :: al, x => if a.1 = kCount then nodeGo pf V al x else if (stepAttr pf a.1 (V a.2) x).2 ≠ 0 then stepAttr pf a.1 (V a.2) x else nodeGo pf V al (stepAttr pf a.1 (V a.2) x).1
/-- A node once: the error, and what is declared then. -/
def turnNode (pf nm : ByteArray) (V : List NodeL → VL × Int) (al : List (ByteArray × List NodeL)) (ws : List WantL) : Int × List WantL :=
  if 24 < nm.size then (4, ws) else if (nodeGo pf V al ⟨nm, ⟨#[]⟩, 0, 0, 0⟩).2 ≠ 0 then ((nodeGo pf V al ⟨nm, ⟨#[]⟩, 0, 0, 0⟩).2, ws) else if ws.length = 120 then (4, ws) else (0, ws ++ [(nodeGo pf V al ⟨nm, ⟨#[]⟩, 0, 0, 0⟩).1])
theorem nodeGo_count {pf : ByteArray} {V : List NodeL → VL × Int} {a : ByteArray × List NodeL} {al : List (ByteArray × List NodeL)} {x : WantL} (h : a.1 = kCount) : nodeGo pf V (a :: al) x = nodeGo pf V al x := by rw [nodeGo, if_pos h]
theorem nodeGo_err {pf : ByteArray} {V : List NodeL → VL × Int} {a : ByteArray × List NodeL} {al : List (ByteArray × List NodeL)} {x : WantL} (h : a.1 ≠ kCount) (k : (stepAttr pf a.1 (V a.2) x).2 ≠ 0) : nodeGo pf V (a :: al) x = stepAttr pf a.1 (V a.2) x := by rw [nodeGo, if_neg h, if_pos k]
theorem nodeGo_ok {pf : ByteArray} {V : List NodeL → VL × Int} {a : ByteArray × List NodeL} {al : List (ByteArray × List NodeL)} {x : WantL} (h : a.1 ≠ kCount) (k : (stepAttr pf a.1 (V a.2) x).2 = 0) : nodeGo pf V (a :: al) x = nodeGo pf V al (stepAttr pf a.1 (V a.2) x).1 := by rw [nodeGo, if_neg h, if_neg (by simpa using k)]
/-- What all steps of an expansion stand on. -/
structure Ground (B P gd : Nat) (w : World) (p gi gn nn : Nat) (ps : List (Nat × ByteArray)) (ar : Value) (lb pf : ByteArray) (bv : Value) (L : ByteArray → Option VL) : Prop where
  sc : ScAt w p ar lb bv pf gi gn
  names : ScopeAt w 0 gn nn L
  around : AroundAt w P ps ar
  deep : ps.length ≤ 100
  tab : TabOK w
  err : ErrVar w
  base : B ≤ w.heap.size
  vars : 3 < B
  own : B ≤ p ∧ B ≤ gn ∧ ∀ q ∈ ps, B ≤ q.1
  pf : pf.size ≤ 100000
theorem Ground.fr {B P gd : Nat} {w w' : World} {p gi gn nn : Nat} {ps : List (Nat × ByteArray)} {ar : Value} {lb pf : ByteArray} {bv : Value} {L : ByteArray → Option VL} (h : Ground B P gd w p gi gn nn ps ar lb pf bv L) (k : Fr B none w w') (ht : TabOK w') : Ground B P gd w' p gi gn nn ps ar lb pf bv L :=
  ⟨h.sc.fr k (by simp), h.names.fr k (by simp), h.around.fr k (fun _ _ => by simp), h.deep, ht, h.err.below k.low' h.vars, Nat.le_trans h.base k.size, h.vars, h.own, h.pf⟩
section
variable (w : World)
set_option maxHeartbeats 4000000 in
set_option maxRecDepth 20000 in
theorem pturnNode (B P gd beg : Nat) (p gi gn nn : Nat) (ps : List (Nat × ByteArray)) (ar : Value) (lb pf : ByteArray) (bv : Value) (L : ByteArray → Option VL) (hg : Ground B P gd w p gi gn nn ps ar lb pf bv L) (ws : List WantL) (hws : WhAt B P gd w beg ws) (hwl : ws.length ≤ 120)
    (hv : Value) (nm : ByteArray) (hd : List (ByteArray × VL)) (hh : BindsRd w 0 hv hd) (b : BlkL) (ato : Option Addr) (atc : Nat) (bo : Option Addr) (bc : Nat) (ha : AttrsRd w (.slice ato b.attrs.length atc) b.attrs) (hl : b.attrs.length ≤ 1000) (V : List NodeL → VL × Int)
    (hV : ∀ a ∈ b.attrs, a.1 ≠ kCount → Worth L hd a.2 (V a.2) ∧ (V a.2).1.text.size ≤ 100000) :
    Calls Tryz.prog 57 #[turnV p nm hv, blkV b ato atc bo bc] w fun e w' => e = .returned (.int .i64 (turnNode pf nm V b.attrs ws).1) ∧ Fr B none w w' ∧ WhAt B P gd w' beg (turnNode pf nm V b.attrs ws).2 := by
  have G := Lib.hid hg
  have HW := Lib.hid hws
  have HH := Lib.hid hh
  have HA := Lib.hid ha
  have HV := Lib.hid hV
  obtain ⟨ho, hc, rfl, -⟩ := hh
  unfold turnV blkV
  clear hg hws ha hV
  by_cases h24 : 24 < nm.size
  · have E := Lib.hid (show turnNode pf nm V b.attrs ws = (4, ws) by unfold turnNode; rw [if_pos h24])
    have BA := Lib.hid (below_al (below_al (Below.refl w.heap.size w) (.cells #[.pointer (some ⟨p, 0, none⟩), .string nm, .slice ho hd.length hc] 120)) (.cells #[.int .i64 b.kind, .string b.label, .slice ato b.attrs.length atc, .slice bo b.blocks.length bc] 30))
    rw [E.out]
    go_enter Tryz.func57, Tryz.ntmps57
    go_wp2_with fail
    go_ret
    exact ⟨rfl, Fr.of BA.out G.out.base, HW.out.below BA.out⟩
  · have hnm : ¬ (24 : Int) < (nm.size : Int) := by omega
    have B0 := Lib.hid (below_al (below_al (below_al (Below.refl w.heap.size w) (.cells #[.pointer (some ⟨p, 0, none⟩), .string nm, .slice ho hd.length hc] 120)) (.cells #[.int .i64 b.kind, .string b.label, .slice ato b.attrs.length atc, .slice bo b.blocks.length bc] 30)) (.cells #[.string nm, .string ⟨#[]⟩, .int .i64 0, .int .i64 0, .int .i64 0] 50))
    have NT := Lib.hid (show (((w.alloc (.cells #[.pointer (some ⟨p, 0, none⟩), .string nm, .slice ho hd.length hc] 120)).alloc (.cells #[.int .i64 b.kind, .string b.label, .slice ato b.attrs.length atc, .slice bo b.blocks.length bc] 30)).alloc (.cells #[.string nm, .string ⟨#[]⟩, .int .i64 0, .int .i64 0, .int .i64 0] 50)).heap[w.heap.size]? = some (.cells #[.pointer (some ⟨p, 0, none⟩), .string nm, .slice ho hd.length hc] 120 (0, 0)) from
      (heap_alloc_old _ _ (by simp; omega)).trans ((heap_alloc_old _ _ (by simp)).trans (heap_alloc_new w _)))
    have NX := Lib.hid (show WBox (((w.alloc (.cells #[.pointer (some ⟨p, 0, none⟩), .string nm, .slice ho hd.length hc] 120)).alloc (.cells #[.int .i64 b.kind, .string b.label, .slice ato b.attrs.length atc, .slice bo b.blocks.length bc] 30)).alloc (.cells #[.string nm, .string ⟨#[]⟩, .int .i64 0, .int .i64 0, .int .i64 0] 50)) (w.heap.size + 1 + 1) ⟨nm, ⟨#[]⟩, 0, 0, 0⟩ from heap_at (by simp))
    have H24 := Lib.hid h24
    clear h24
    go_enter Tryz.func57, Tryz.ntmps57
    go_wp2_with fail
    generalize ((w.alloc (.cells #[.pointer (some ⟨p, 0, none⟩), .string nm, .slice ho hd.length hc] 120)).alloc (.cells #[.int .i64 b.kind, .string b.label, .slice ato b.attrs.length atc, .slice bo b.blocks.length bc] 30)).alloc (.cells #[.string nm, .string ⟨#[]⟩, .int .i64 0, .int .i64 0, .int .i64 0] 50) = w0 at *
    go_loopg [19] b.attrs.length (fun m iv wr => ∃ (j : Nat) (x : WantL), iv = .int .i64 j ∧ b.attrs.length - j ≤ m ∧ j ≤ b.attrs.length ∧ Hid (w0.grownBy wr (some (w.heap.size + 1 + 1))) ∧ Hid (WBox wr (w.heap.size + 1 + 1) x) ∧ Hid (nodeGo pf V (b.attrs.drop j) x = nodeGo pf V b.attrs ⟨nm, ⟨#[]⟩, 0, 0, 0⟩))
    case atStart => exact ⟨0, _, rfl, Nat.le_refl _, Nat.zero_le _, Lib.hid (grown_refl _ _), NX, Lib.hid rfl⟩
    case round =>
      obtain ⟨j, x, rfl, hm, hj, GR, WX, NG⟩ := hrel
      have HM := Lib.hid hm
      clear hm
      have BR := Lib.hid (Below.grown B0.out GR.out B0.out.size (fun k hk => by simp at hk; omega))
      have NTr := Lib.hid ((GR.out.block w.heap.size (Array.getElem?_eq_some_iff.1 NT.out).1 (by simp; omega)).trans NT.out)
      by_cases hjl : j < b.attrs.length
      · obtain ⟨a, haj⟩ : ∃ a, b.attrs[j]? = some a := ⟨_, List.getElem?_eq_getElem hjl⟩
        have hmem := List.mem_of_getElem? haj
        have HVA := Lib.hid (HV.out a hmem)
        have DR := Lib.hid (show b.attrs.drop j = a :: b.attrs.drop (j + 1) by
          obtain ⟨h1, h2⟩ := List.getElem?_eq_some_iff.1 haj
          rw [← h2]
          exact List.drop_eq_getElem_cons h1)
        obtain ⟨ao2, cap2, e2, hat⟩ := HA.out.below BR.out
        simp at e2
        obtain ⟨rfl, rfl⟩ := e2
        obtain ⟨g, o, no, nc, rfl, c0, c1, hr⟩ := hat j a haj
        have BA := Lib.hid (below_al (Below.refl wr.heap.size wr) (.cells #[.string a.1, .slice no a.2.length nc] 26))
        have NA := Lib.hid (heap_alloc_new wr (.cells #[.string a.1, .slice no a.2.length nc] 26))
        have HR := Lib.hid (hr.below BA.out)
        have BW := Lib.hid (below_tr BR.out BA.out)
        have GA := Lib.hid (show w0.grownBy (wr.alloc (.cells #[.string a.1, .slice no a.2.length nc] 26)) (some (w.heap.size + 1 + 1)) from grown_trans GR.out (World.grownBy_alloc _ _ _))
        have XA := Lib.hid (WX.out.below BA.out)
        have TA := Lib.hid ((BA.out.block _ (Array.getElem?_eq_some_iff.1 NTr.out).1).trans NTr.out)
        clear hat haj hr hmem
        by_cases hcount : a.1 = kCount
        · have ec : (a.1.toList == ([99, 111, 117, 110, 116] : List UInt8)) = true := str_is hcount
          have NG2 := Lib.hid (show nodeGo pf V (b.attrs.drop (j + 1)) x = nodeGo pf V b.attrs ⟨nm, ⟨#[]⟩, 0, 0, 0⟩ by rw [← NG.out, DR.out, nodeGo_count hcount])
          clear hcount
          go_wp2_with fail
          go_roundg (b.attrs.length - (j + 1))
          case rel => exact ⟨j + 1, x, rfl, Nat.le_refl _, hjl, GA, XA, NG2⟩
          case measure => have := HM.out; omega
        · have ec : (a.1.toList == ([99, 111, 117, 110, 116] : List UInt8)) = false := str_ne hcount
          have HC := Lib.hid hcount
          have k0 := cell_of_row _ _ 0 _ _ _ TA.out
          have k1 := cell_of_row _ _ 1 _ _ _ TA.out
          have k2 := cell_of_row _ _ 2 _ _ _ TA.out
          simp at k0 k1 k2
          obtain ⟨hw1, hw2⟩ := HVA.out hcount
          have PS := Lib.hid (pstepAttr (wr.alloc (.cells #[.string a.1, .slice no a.2.length nc] 26)) p gi gn nn ar lb pf bv L (.slice ho hd.length hc) nm hd a no nc (V a.2) (G.out.sc.below (BW.out.mono (Nat.le_of_lt_succ (Nat.lt_succ_of_le (Nat.le_refl _))))) (G.out.names.below BW.out) HR.out (HH.out.below BW.out) hw1 (G.out.tab.below BW.out) (G.out.err.below BW.out (Nat.lt_of_lt_of_le G.out.vars G.out.base)) (w.heap.size + 1 + 1) x XA.out G.out.pf hw2)
          unfold turnV at PS
          clear hcount hw1 hw2
          go_wp2_with fail
          refine PS.out.mono ?_
          rintro e w2 ⟨rfl, hg2, hx2⟩
          have G2 := Lib.hid (grown_trans GA.out hg2)
          have X2 := Lib.hid hx2
          clear hg2 hx2 PS
          by_cases hse : (stepAttr pf a.1 (V a.2) x).2 = 0
          · have ge : ((stepAttr pf a.1 (V a.2) x).2 != 0) = false := by simpa using hse
            have NG2 := Lib.hid (show nodeGo pf V (b.attrs.drop (j + 1)) (stepAttr pf a.1 (V a.2) x).1 = nodeGo pf V b.attrs ⟨nm, ⟨#[]⟩, 0, 0, 0⟩ by rw [← NG.out, DR.out, nodeGo_ok HC.out hse])
            clear hse
            go_wp2_with fail
            go_roundg (b.attrs.length - (j + 1))
            case rel => exact ⟨j + 1, _, rfl, Nat.le_refl _, hjl, G2, X2, NG2⟩
            case measure => have := HM.out; omega
          · have ge : ((stepAttr pf a.1 (V a.2) x).2 != 0) = true := by simpa using hse
            have E := Lib.hid (show turnNode pf nm V b.attrs ws = ((stepAttr pf a.1 (V a.2) x).2, ws) by
              unfold turnNode
              rw [if_neg H24.out, ← NG.out, DR.out, nodeGo_err HC.out hse, if_pos hse])
            have B2 := Lib.hid (Below.grown B0.out G2.out B0.out.size (fun k hk => by simp at hk; omega))
            clear hse
            go_wp2_with fail
            go_ret
            rw [E.out]
            exact ⟨rfl, Fr.of B2.out G.out.base, HW.out.below B2.out⟩
      · have hz : j = b.attrs.length := by omega
        subst hz
        have NGx := Lib.hid (show nodeGo pf V b.attrs ⟨nm, ⟨#[]⟩, 0, 0, 0⟩ = (x, 0) by rw [← NG.out, List.drop_length]; rfl)
        have FR := Lib.hid (show Fr B none w wr from Fr.of BR.out G.out.base)
        have k0 := cell_of_row _ _ 0 _ _ _ NTr.out
        simp at k0
        obtain ⟨⟨x0, x1, x2, x3, x4⟩, -⟩ := WX.out.cells
        obtain ⟨T, u, hT, hmeth⟩ := around_declare (W := wr.drew) (G.out.around.fr (FR.out.trans (Fr.of (below_drew (Below.refl wr.heap.size wr)) (Nat.le_trans G.out.base BR.out.size))) (fun _ _ => by simp)) G.out.deep
        have sc0 := (G.out.sc.below BR.out).cells.1
        rw [hT] at sc0
        have WR := Lib.hid (HW.out.below BR.out)
        have BS := Lib.hid (Nat.le_trans G.out.base BR.out.size)
        by_cases hw : ws.length = 120
        · have E := Lib.hid (show turnNode pf nm V b.attrs ws = (4, ws) by unfold turnNode; rw [if_neg H24.out, NGx.out, if_neg (by simp), if_pos hw])
          have PD := Lib.hid (show Calls Tryz.prog 257 #[.pointer (some ⟨P, 0, none⟩), wantV x] wr.drew fun e w' => e = .returned (.int .i64 4) ∧ Below wr.heap.size wr w' from (pdeclare_full wr.drew B P gd beg ws (WR.out.below (below_drew (Below.refl _ _))) x hw).mono fun e w' h => ⟨h.1, (below_drew (Below.refl wr.heap.size wr)).trans h.2⟩)
          unfold wantV at PD
          clear hw
          go_wp2_with fail
          go_region_with (go_at_call 257; refine PD.out.mono ?_; rintro e w2 ⟨rfl, hb2⟩; have B2 := Lib.hid (below_tr BR.out hb2); clear hb2)
          all_goals go_wp2
          all_goals go_ret
          all_goals rw [E.out]
          all_goals exact ⟨rfl, Fr.of B2.out G.out.base, HW.out.below B2.out⟩
        · have E := Lib.hid (show turnNode pf nm V b.attrs ws = (0, ws ++ [x]) by unfold turnNode; rw [if_neg H24.out, NGx.out, if_neg (by simp), if_neg hw])
          have PD := Lib.hid (show Calls Tryz.prog 257 #[.pointer (some ⟨P, 0, none⟩), wantV x] wr.drew fun e w' => e = .returned (.int .i64 0) ∧ Fr B none wr w' ∧ WhAt B P gd w' beg (ws ++ [x]) from (pdeclare wr.drew B P gd beg ws (WR.out.below (below_drew (Below.refl _ _))) x hwl BS.out).mono fun e w' h => ⟨(h.2.2 (by omega)).1, (Fr.of (below_drew (Below.refl wr.heap.size wr)) BS.out).trans h.1, (h.2.2 (by omega)).2⟩)
          unfold wantV at PD
          clear hw
          go_wp2_with fail
          go_region_with (go_at_call 257; refine PD.out.mono ?_; rintro e w2 ⟨rfl, hf2, hw2⟩; have F2 := Lib.hid (FR.out.trans hf2); have W2 := Lib.hid hw2; clear hf2 hw2)
          all_goals go_wp2
          all_goals go_ret
          all_goals rw [E.out]
          all_goals exact ⟨rfl, F2.out, W2.out⟩
end
end Go.Proofs.YtndeihmclecmcaaGreatDoor
