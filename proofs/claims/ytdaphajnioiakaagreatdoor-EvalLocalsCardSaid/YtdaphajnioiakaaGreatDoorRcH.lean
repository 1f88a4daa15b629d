/- Package refs: heap.Push, heap.Pop of a heap of at most one place. -/
import Derived.Test.YtdaphajnioiakaaGreatDoorRcE
namespace Go.Proofs.YtdaphajnioiakaaGreatDoor
open Go.RowKit
set_option linter.unusedVariables false
set_option linter.unusedSimpArgs false
section
variable {w : World} {B b gw gb n : Nat} {pv : Value} {vs : List Value} {P wt : List Int} {bh : List (List Int)}
/-- All blocks but the row's own and that of its places are as they were. -/
def Far (w w' : World) (b : Nat) (pv : Value) : Prop := ∀ k, k < w.heap.size → k ≠ b → pv.ownBlock ≠ some k → w'.heap[k]? = w.heap[k]?
theorem Far.refl (w : World) (b : Nat) (pv : Value) : Far w w b pv := fun _ _ _ _ => rfl
theorem Far.trans {w w1 w2 : World} {b : Nat} {pv pv' : Value} (h : Far w w1 b pv) (k : Far w1 w2 b pv') (hs : w.heap.size ≤ w1.heap.size) (hn : ∀ k, pv'.ownBlock = some k → pv.ownBlock = some k ∨ w.heap.size ≤ k) : Far w w2 b pv :=
  fun j hj hb hp => (k j (Nat.lt_of_lt_of_le hj hs) hb (fun e => by
    rcases hn j e with e2 | e2
    · exact hp e2
    · omega)).trans (h j hj hb hp)
/-- The list of places is written, in its own block or a new one. -/
theorem RowAt.plMove (h : RowAt w B b gw gb n pv vs P wt bh) {w1 : World} {H : Nat} {v' : Value} {P' : List Int} (hg : w.grownBy w1 pv.ownBlock) (hH : w.heap.size ≤ H)
    (ho : w1.ownsRow B 3 1 v' P'.length (intCells P')) (hv' : v'.ownBlock = pv.ownBlock ∨ v'.ownBlock = some H) :
    RowAt (w1.setCell ⟨b, 0, none⟩ v') B b gw gb n v' vs P' wt bh ∧ Below B w (w1.setCell ⟨b, 0, none⟩ v') ∧ Far w (w1.setCell ⟨b, 0, none⟩ v') b pv := by
  obtain ⟨n1, n2, n3⟩ := h.nes
  obtain ⟨l1, l2, l3⟩ := h.lts
  have mb : w1.heap[b]? = w.heap[b]? := hg.block b l1 (fun e => (h.pne e.symm).2.2.1 rfl)
  have mk : ∀ k, k < w.heap.size → k ≠ b → pv.ownBlock ≠ some k → (w1.setCell ⟨b, 0, none⟩ v').heap[k]? = w.heap[k]? := fun k hk hb hp =>
    (heap_setCell_other w1 ⟨b, 0, none⟩ k v' hb).trans (hg.block k hk (Ne.symm hp))
  have hvne : ∀ k, v'.ownBlock = some k → k ≠ b ∧ k ≠ gw ∧ ∀ (i : Nat) (u : Value), vs[i]? = some u → u.ownBlock ≠ some k := by
    intro k hk
    rcases hv' with e | e
    · rw [e] at hk
      have q := h.pne hk
      exact ⟨q.2.2.1, q.2.2.2.2, fun i u hu hku => h.vp i u k hu hku hk⟩
    · rw [e] at hk
      simp at hk
      subst hk
      exact ⟨by omega, by omega, fun i u hu hku => by have := (h.vne hu hku).2.1; omega⟩
  refine ⟨⟨?_, h.low, own_move ho (fun k hk => heap_setCell_other w1 ⟨b, 0, none⟩ k v' (hvne k hk).1), own_move h.waits (fun k hk => ?_), own_move h.behind (fun k hk => ?_), h.len,
    fun i v l hv hl => own_move (h.own i v l hv hl) (fun k hk => mk k (h.vne hv hk).2.1 (h.vne hv hk).2.2.1 (h.vp i v k hv hk)), h.apart, fun e => (hvne gw e).2.1 rfl, h.vw, fun i v k hv hk e => (hvne k e).2.2 i v hv hk⟩, ?_, fun k h1 h2 h3 => mk k h1 h2 h3⟩
  · exact heap_setCell_same w1 b 0 _ _ v' (mb.trans h.blk)
  · simp [Value.ownBlock] at hk; subst hk
    exact mk gw l2 n1 h.pw
  · simp [Value.ownBlock] at hk; subst hk
    exact mk gb l3 n2 (fun e => (h.pne e).2.2.2.1 rfl)
  · exact Below.setCell (Below.grown (Below.refl B w) hg (by have := h.low; omega) (fun k hk => (h.pne hk).1)) h.low _
end
section
variable (w : World)
set_option maxHeartbeats 1000000 in
set_option maxRecDepth 20000 in
theorem ppush (B b gw gb n : Nat) (pv : Value) (vs : List Value) (P wt : List Int) (bh : List (List Int)) (h : RowAt w B b gw gb n pv vs P wt bh) (x : Int) (hP : P.length ≤ 100000) :
    Calls Tryz.prog 212 #[.pointer (some ⟨b, 0, none⟩), .iface 3 (.int .i64 x)] w fun e w' => e = .returned (.tuple #[]) ∧ Below B w w' ∧ Far w w' b pv ∧ ∃ g cap, (pv.ownBlock = some g ∨ w.heap.size ≤ g) ∧ RowAt w' B b gw gb n (.slice (some ⟨g, 0, none⟩) (P.length + 1) cap) vs (P ++ [x]) wt bh := by
  obtain ⟨i0, hi0, hz0, hz1, hz2⟩ := info_parts info_int
  obtain ⟨⟨c0, c1, c2⟩, f0, f1, f2⟩ := h.cells
  have HH := Lib.hid h
  have LW := Lib.hid h.low
  have LT := Lib.hid h.lts
  have HP := Lib.hid hP
  have ho := h.places
  obtain ⟨vo, vc, rfl⟩ : ∃ ao cap, pv = .slice ao P.length cap := by
    rcases ho.2 with ⟨rfl, h0⟩ | ⟨g, cap, cur, rfl, _⟩
    · rw [h0]; exact ⟨_, _, rfl⟩
    · exact ⟨_, _, rfl⟩
  have HO := Lib.hid ho
  clear h hP ho c1 c2 f1 f2
  have BA := below_al (Below.refl w.heap.size w) (.cells #[.int .i64 x] 3)
  have a0 : (w.alloc (.cells #[.int .i64 x] 3)).cell? ⟨b, 0, none⟩ = some (.slice vo P.length vc) := hold BA c0
  have a1 : (w.alloc (.cells #[.int .i64 x] 3)).frozen? ⟨b, 0, none⟩ = false := (BA.frozen (p := ⟨b, 0, none⟩) LT.out.1).trans f0
  have KG : ∀ (w6 : World), (w.alloc (.cells #[.int .i64 x] 3)).drew.grownBy w6 (Value.slice vo P.length vc).ownBlock → w6.cell? ⟨b, 0, none⟩ = some (.slice vo P.length vc) ∧ w6.frozen? ⟨b, 0, none⟩ = false := fun w6 hg => by
    have k := (grown_drewA hg).block b LT.out.1 (fun e => (HH.out.pne e.symm).2.2.1 rfl)
    exact ⟨(World.cell?_of_block (a := ⟨b, 0, none⟩) k).trans c0, (World.frozen?_of_block (a := ⟨b, 0, none⟩) k).trans f0⟩
  replace KG := Lib.hid KG
  clear BA
  have hta : ∀ W : World, (Instr.typeAssert (.iface 3 (.int .i64 x)) 20 3 false).run Tryz.prog W = .ok (.int .i64 x) W := fun W => by kernel_rfl
  go_enter Tryz.func212, Tryz.ntmps212
  go_wp2_with fail
  go_region_law (first | (refine step_append_lies _ (by rfl) _ _ _ (by rfl) B 3 i0 (.int .i64 0) 1 8 Tryz.underlying82 hi0 hz0 hz1 hz2 rfl (by decide) (.slice vo P.length vc) P.length (intCells P) (by rfl) (by exact (World.ownsRow.alloc HO.out _)) ⟨w.heap.size, 0, none⟩ 1 1 [.int .i64 x] (by rfl) (by rfl) (by exact (news_new w #[.int .i64 x] 3)) (by simp [Value.oneCell']) (by decide) (by have := HP.out; unfold maxLen; omega) (by have := HP.out; omega) (by have := LW.out; have := LT.out; simp; omega) (w.heap.size + 1) (by simp) ?_; intro gg cc w6 hown' hgrow hat hlt; obtain ⟨g1, g2⟩ := KG.out _ hgrow))
  all_goals go_wp2
  all_goals
    have hown2 : w6.ownsRow B 3 1 (.slice (some ⟨gg, 0, none⟩) (P.length + 1) cc) (P ++ [x]).length (intCells (P ++ [x])) := by
      rw [List.length_append, intCells_app]; exact hown'
  all_goals obtain ⟨r1, r2, r3⟩ := HH.out.plMove (grown_drewA hgrow) (H := w.heap.size + 1) (Nat.le_succ _) hown2 (by
    rcases hat with h | h
    · exact .inl h.symm
    · exact .inr (by rw [h]; rfl))
  all_goals exact bodyPost_end (v := .tuple #[]) (by simp [results, Tryz.results212, go_sem]) rfl ⟨rfl, r2, r3, _, _, hat.imp (fun h => h) (fun h => by omega), r1⟩
end
end Go.Proofs.YtdaphajnioiakaaGreatDoor
namespace Go.Proofs.YtdaphajnioiakaaGreatDoor
open Go.RowKit
set_option linter.unusedVariables false
set_option linter.unusedSimpArgs false
section
variable {w : World} {B b gw gb n : Nat} {pv : Value} {vs : List Value} {P wt : List Int} {bh : List (List Int)}
theorem grown_refl (w : World) (row : Option Nat) : w.grownBy w row := ⟨rfl, rfl, rfl, Nat.le_refl _, fun _ _ _ => rfl⟩
/-- A place is written where it lies. -/
theorem RowAt.plStore {g m cap : Nat} (h : RowAt w B b gw gb n (.slice (some ⟨g, 0, none⟩) m cap) vs P wt bh) (hm : m = P.length) (i : Nat) (x : Int) :
    RowAt (w.setCell ⟨g, i, none⟩ (.int .i64 x)) B b gw gb n (.slice (some ⟨g, 0, none⟩) m cap) vs (P.set i x) wt bh ∧ Below B w (w.setCell ⟨g, i, none⟩ (.int .i64 x)) ∧ Far w (w.setCell ⟨g, i, none⟩ (.int .i64 x)) b (.slice (some ⟨g, 0, none⟩) m cap) := by
  subst hm
  obtain ⟨o1, o2⟩ := World.ownsRow.stored h.places i (.int .i64 x)
  rw [intCells_set] at o1
  have q := h.pne (k := g) rfl
  obtain ⟨l1, l2, l3⟩ := h.lts
  have mv : ∀ k, k < w.heap.size → k ≠ g → (w.setCell ⟨g, i, none⟩ (.int .i64 x)).heap[k]? = w.heap[k]? := fun k hk hne => o2.block k hk (by simpa using hne)
  refine ⟨⟨(mv b l1 (Ne.symm q.2.2.1)).trans h.blk, h.low, by simpa using o1, own_move h.waits (fun k hk => ?_), own_move h.behind (fun k hk => ?_), h.len,
    fun j v l hv hl => own_move (h.own j v l hv hl) (fun k hk => mv k (h.vne hv hk).2.1 (fun e => h.vp j v k hv hk (by rw [e]; rfl))), h.apart, h.pw, h.vw, h.vp⟩, (Below.refl B w).setCell q.1 _, fun k h1 _ h3 => mv k h1 (fun e => h3 (by rw [e]; rfl))⟩
  · simp [Value.ownBlock] at hk; subst hk; exact mv gw l2 (Ne.symm q.2.2.2.2)
  · simp [Value.ownBlock] at hk; subst hk; exact mv gb l3 (Ne.symm q.2.2.2.1)
theorem RowAt.pcell {g m cap : Nat} (h : RowAt w B b gw gb n (.slice (some ⟨g, 0, none⟩) m cap) vs P wt bh) (hm : m = P.length) {i : Nat} {x : Int} (hx : P[i]? = some x) : w.cell? ⟨g, i, none⟩ = some (.int .i64 x) ∧ w.frozen? ⟨g, i, none⟩ = false := by
  subst hm
  have hi := (List.getElem?_eq_some_iff.1 hx).1
  refine ⟨?_, World.ownsRow.frozenAt h.places i⟩
  rw [World.ownsRow.cellAt h.places i (by omega)]
  simp [intCells, hx]
end
section
variable (w : World)
set_option maxRecDepth 20000 in
theorem plen (ao : Option Addr) (m cap : Nat) : Calls Tryz.prog 31 #[.slice ao m cap] w fun e w' => e = .returned (.int .i64 (m : Int)) ∧ w = w' := by
  go_enter Tryz.func31, Tryz.ntmps31
  go_wp2_with fail
  go_ret
  exact ⟨rfl, rfl⟩
set_option maxHeartbeats 1000000 in
set_option maxRecDepth 20000 in
theorem pswap0 (B b gw gb n g cap : Nat) (vs : List Value) (x : Int) (wt : List Int) (bh : List (List Int)) (h : RowAt w B b gw gb n (.slice (some ⟨g, 0, none⟩) 1 cap) vs [x] wt bh) :
    Calls Tryz.prog 213 #[.slice (some ⟨g, 0, none⟩) 1 cap, .int .i64 0, .int .i64 0] w fun e w' => e = .returned (.tuple #[]) ∧ Below B w w' ∧ Far w w' b (.slice (some ⟨g, 0, none⟩) 1 cap) ∧ RowAt w' B b gw gb n (.slice (some ⟨g, 0, none⟩) 1 cap) vs [x] wt bh := by
  obtain ⟨c0, f0⟩ := h.pcell rfl (i := 0) rfl
  obtain ⟨h1, hb1, k1⟩ := h.plStore rfl 0 x
  obtain ⟨h2, hb2, k2⟩ := h1.plStore rfl 0 x
  have K2 := Lib.hid (k1.trans k2 hb1.size (fun _ e => .inl e))
  have H2 := Lib.hid h2
  have B2 := Lib.hid (hb1.trans hb2)
  clear h h1 hb1 h2 hb2 k1 k2
  go_enter Tryz.func213, Tryz.ntmps213
  go_wp2_with fail
  go_region_with fail
  all_goals go_wp2
  all_goals exact bodyPost_end (v := .tuple #[]) (by simp [results, Tryz.results213, go_sem]) rfl ⟨rfl, below_drew B2.out, fun k h1 h2 h3 => K2.out k h1 h2 h3, H2.out.below (below_drew (Below.refl _ _))⟩
set_option maxHeartbeats 1000000 in
set_option maxRecDepth 20000 in
theorem ppop (B b gw gb n g cap : Nat) (vs : List Value) (x : Int) (wt : List Int) (bh : List (List Int)) (h : RowAt w B b gw gb n (.slice (some ⟨g, 0, none⟩) 1 cap) vs [x] wt bh) :
    Calls Tryz.prog 211 #[.pointer (some ⟨b, 0, none⟩)] w fun e w' => e = .returned (.iface 3 (.int .i64 x)) ∧ Below B w w' ∧ Far w w' b (.slice (some ⟨g, 0, none⟩) 1 cap) ∧ RowAt w' B b gw gb n (.slice (some ⟨g, 0, none⟩) 0 cap) vs [] wt bh := by
  obtain ⟨c0, f0⟩ := h.pcell rfl (i := 0) rfl
  obtain ⟨⟨b0, b1, b2⟩, x0, x1, x2⟩ := h.cells
  have hh : w.ownsRow B 3 1 (.slice (some ⟨g, 0, none⟩) 0 cap) ([] : List Int).length (intCells []) := by
    rcases h.places.2 with ⟨e, h0⟩ | ⟨g', cap', cur, e, hB, hg, hnc, hcm, hsz, htk⟩
    · simp at e
    · simp only [Value.slice.injEq, Option.some.injEq, Addr.mk.injEq, and_true, true_and] at e
      obtain ⟨rfl, -, rfl⟩ := e
      exact ⟨by simp [intCells], .inr ⟨g, cap, cur, rfl, hB, hg, Nat.zero_le _, hcm, hsz, by simp [intCells]⟩⟩
  obtain ⟨m1, m2, m3⟩ := h.plMove (grown_refl w _) (H := w.heap.size) (Nat.le_refl _) hh (.inl rfl)
  have H2 := Lib.hid m1
  have B2 := Lib.hid m2
  have K2 := Lib.hid m3
  clear h hh m1 m2 m3
  go_enter Tryz.func211, Tryz.ntmps211
  go_wp2_with fail
  go_ret
  exact ⟨rfl, B2.out, K2.out, H2.out⟩
set_option maxRecDepth 20000 in
theorem pup0 (hv : Value) : Calls Tryz.prog 41 #[hv, .int .i64 0] w fun e w' => e = .returned (.tuple #[]) ∧ w = w' := by
  go_enter Tryz.func41, Tryz.ntmps41
  go_wp2_with fail
  go_loopg [1, 4] 0 (fun m jv iv wr => jv = .int .i64 0 ∧ w = wr)
  case atStart => exact ⟨rfl, rfl⟩
  case round =>
    obtain ⟨rfl, rfl⟩ := hrel
    go_wp2_with fail
    exact bodyPost_end (v := .tuple #[]) (by simp [results, Tryz.results41, go_sem]) rfl ⟨rfl, rfl⟩
set_option maxRecDepth 20000 in
theorem pdown0 (hv : Value) : Calls Tryz.prog 42 #[hv, .int .i64 0, .int .i64 0] w fun e w' => e = .returned (.bool false) ∧ w = w' := by
  go_enter Tryz.func42, Tryz.ntmps42
  go_wp2_with fail
  go_loopg [7] 0 (fun m iv wr => iv = .int .i64 0 ∧ w = wr)
  case atStart => exact ⟨rfl, rfl⟩
  case round =>
    obtain ⟨rfl, rfl⟩ := hrel
    go_wp2_with fail
    go_ret
    exact ⟨rfl, rfl⟩
end
end Go.Proofs.YtdaphajnioiakaaGreatDoor
namespace Go.Proofs.YtdaphajnioiakaaGreatDoor
open Go.RowKit
set_option linter.unusedVariables false
set_option linter.unusedSimpArgs false
theorem load_places {b : Nat} {W : World} {v : Value} (h : W.cell? ⟨b, 0, none⟩ = some v) : (loadVar 82 ⟨b, 0, none⟩).run Tryz.prog W = .ok v W := by
  simp [loadVar, go_sem, h]
theorem row_method (name : String) (f : FuncId) (h : (Tryz.prog.info? 61).bind (fun i => (i.methods.find? (·.name == name)).map (fun m => (m.func, m.path.toList.map (fun s => (s.struct, s.index, s.deref))))) = some (some (f, false), [(85, 0, true)]))
    {b : Nat} {W : World} {v : Value} (hc : W.cell? ⟨b, 0, none⟩ = some v) (k : Nat) : (method (k + 1) 61 (.pointer (some ⟨b, 0, none⟩)) name).run Tryz.prog W = .ok (f, v) W := by
  obtain ⟨i, hi, h⟩ := Option.bind_eq_some_iff.1 h
  obtain ⟨m, hm, h⟩ := Option.map_eq_some_iff.1 h
  simp only [Prod.mk.injEq] at h
  obtain ⟨h3, h4⟩ := h
  obtain ⟨s, tl, h5, h6, h7⟩ := List.map_eq_cons_iff.1 h4
  simp only [Prod.mk.injEq] at h6
  obtain ⟨h6, h8, h9⟩ := h6
  have h10 : tl = [] := by simpa using h7
  subst h10
  unfold method
  simp [go_sem, typeInfo, hi, hm, h3, h5, follow, h6, h8, h9, receiverAt, Place.get, hc]
theorem row_pmethod (name : String) (f : FuncId) (h : (Tryz.prog.info? 61).bind (fun i => (i.methods.find? (·.name == name)).map (fun m => (m.func, m.path.toList.map (fun s => (s.struct, s.index, s.deref))))) = some (some (f, true), [(85, 0, true)]))
    (b : Nat) (W : World) (k : Nat) : (method (k + 1) 61 (.pointer (some ⟨b, 0, none⟩)) name).run Tryz.prog W = .ok (f, .pointer (some ⟨b, 0, none⟩)) W := by
  obtain ⟨i, hi, h⟩ := Option.bind_eq_some_iff.1 h
  obtain ⟨m, hm, h⟩ := Option.map_eq_some_iff.1 h
  simp only [Prod.mk.injEq] at h
  obtain ⟨h3, h4⟩ := h
  obtain ⟨s, tl, h5, h6, h7⟩ := List.map_eq_cons_iff.1 h4
  simp only [Prod.mk.injEq] at h6
  obtain ⟨h6, h8, h9⟩ := h6
  have h10 : tl = [] := by simpa using h7
  subst h10
  unfold method
  simp [go_sem, typeInfo, hi, hm, h3, h5, follow, h6, h8, h9, receiverAt, Place.get]
theorem mLen {b : Nat} {W : World} {v : Value} (hc : W.cell? ⟨b, 0, none⟩ = some v) : (method 361 61 (.pointer (some ⟨b, 0, none⟩)) "Len").run Tryz.prog W = .ok (31, v) W := row_method "Len" _ (by kernel_rfl) hc _
theorem mLess {b : Nat} {W : World} {v : Value} (hc : W.cell? ⟨b, 0, none⟩ = some v) : (method 361 61 (.pointer (some ⟨b, 0, none⟩)) "Less").run Tryz.prog W = .ok (210, v) W := row_method "Less" _ (by kernel_rfl) hc _
theorem mSwap {b : Nat} {W : World} {v : Value} (hc : W.cell? ⟨b, 0, none⟩ = some v) : (method 361 61 (.pointer (some ⟨b, 0, none⟩)) "Swap").run Tryz.prog W = .ok (213, v) W := row_method "Swap" _ (by kernel_rfl) hc _
theorem mPush (b : Nat) (W : World) : (method 361 61 (.pointer (some ⟨b, 0, none⟩)) "Push").run Tryz.prog W = .ok (212, .pointer (some ⟨b, 0, none⟩)) W := row_pmethod "Push" _ (by kernel_rfl) b W _
theorem mPop (b : Nat) (W : World) : (method 361 61 (.pointer (some ⟨b, 0, none⟩)) "Pop").run Tryz.prog W = .ok (211, .pointer (some ⟨b, 0, none⟩)) W := row_pmethod "Pop" _ (by kernel_rfl) b W _
section
variable (w : World)
set_option maxHeartbeats 1000000 in
set_option maxRecDepth 20000 in
theorem hpush (B b gw gb n : Nat) (pv : Value) (vs : List Value) (wt : List Int) (bh : List (List Int)) (h : RowAt w B b gw gb n pv vs [] wt bh) (x : Int) :
    Calls Tryz.prog 30 #[.iface 61 (.pointer (some ⟨b, 0, none⟩)), .iface 3 (.int .i64 x)] w fun e w' => e = .returned (.tuple #[]) ∧ Below B w w' ∧ Far w w' b pv ∧ ∃ g cap, (pv.ownBlock = some g ∨ w.heap.size ≤ g) ∧ RowAt w' B b gw gb n (.slice (some ⟨g, 0, none⟩) 1 cap) vs [x] wt bh := by
  have H := Lib.hid h
  have hm := mPush b
  clear h
  go_enter Tryz.func30, Tryz.ntmps30
  go_wp2_with fail
  refine (ppush w B b gw gb n pv vs [] wt bh H.out x (by simp)).mono ?_
  rintro e w1 ⟨rfl, hb1, k1, g, cap, hg, h1⟩
  have K1 := Lib.hid k1
  have G1 := Lib.hid hg
  have H1 := Lib.hid h1
  have B1 := Lib.hid hb1
  have hl := mLen h1.cells.1.1
  simp only [List.length_nil, Nat.zero_add] at hl
  clear h1 hb1 k1 hg
  go_wp2_with fail
  refine (plen w1 _ _ _).mono ?_
  rintro e w2 ⟨rfl, rfl⟩
  go_wp2_with fail
  refine (pup0 w1 _).mono ?_
  rintro e w2 ⟨rfl, rfl⟩
  go_wp2_with fail
  exact bodyPost_end (v := .tuple #[]) (by simp [results, Tryz.results30, go_sem]) rfl ⟨rfl, B1.out, K1.out, g, cap, G1.out, H1.out⟩
set_option maxHeartbeats 1000000 in
set_option maxRecDepth 20000 in
theorem hpop (B b gw gb n g cap : Nat) (vs : List Value) (x : Int) (wt : List Int) (bh : List (List Int)) (h : RowAt w B b gw gb n (.slice (some ⟨g, 0, none⟩) 1 cap) vs [x] wt bh) :
    Calls Tryz.prog 32 #[.iface 61 (.pointer (some ⟨b, 0, none⟩))] w fun e w' => e = .returned (.iface 3 (.int .i64 x)) ∧ Below B w w' ∧ Far w w' b (.slice (some ⟨g, 0, none⟩) 1 cap) ∧ RowAt w' B b gw gb n (.slice (some ⟨g, 0, none⟩) 0 cap) vs [] wt bh := by
  have H := Lib.hid h
  have hm := mPop b
  have hl := mLen h.cells.1.1
  have hs := mSwap h.cells.1.1
  clear h
  go_enter Tryz.func32, Tryz.ntmps32
  go_wp2_with fail
  refine (plen w _ _ _).mono ?_
  rintro e w2 ⟨rfl, rfl⟩
  go_wp2_with fail
  refine (pswap0 w B b gw gb n g cap vs x wt bh H.out).mono ?_
  rintro e w1 ⟨rfl, hb1, k1, h1⟩
  have H1 := Lib.hid h1
  have B1 := Lib.hid hb1
  have K1 := Lib.hid k1
  clear h1 hb1 k1
  go_wp2_with fail
  refine (pdown0 w1 _).mono ?_
  rintro e w2 ⟨rfl, rfl⟩
  go_wp2_with fail
  refine (ppop w1 B b gw gb n g cap vs x wt bh H1.out).mono ?_
  rintro e w3 ⟨rfl, hb3, k3, h3⟩
  have H3 := Lib.hid h3
  have B3 := Lib.hid hb3
  have K3 := Lib.hid k3
  clear h3 hb3 k3
  go_wp2_with fail
  go_ret
  exact ⟨rfl, B1.out.trans B3.out, K1.out.trans K3.out B1.out.size (fun _ e => .inl e), H3.out⟩
end
end Go.Proofs.YtdaphajnioiakaaGreatDoor
