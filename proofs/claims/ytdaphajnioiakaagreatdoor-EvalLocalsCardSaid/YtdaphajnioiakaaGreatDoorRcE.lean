/- Package refs: put. -/
import Derived.Test.YtdaphajnioiakaaGreatDoorOwn
import Derived.Deep.AppendLies
import Derived.Deep.RegionLaw
namespace Go.Proofs.YtdaphajnioiakaaGreatDoor
open Go.RowKit
set_option linter.unusedVariables false
set_option linter.unusedSimpArgs false
theorem info_ints : (Tryz.prog.info? 26).map (fun i => (i.zero, i.size, i.bytes)) = some (some (.slice none 0 0), 1, 24) := by kernel_rfl
/-- A row at block b: what could come next, behind how many each has yet to come, which come behind each. -/
structure RowAt (w : World) (B b gw gb n : Nat) (pv : Value) (vs : List Value) (P wt : List Int) (bh : List (List Int)) : Prop where
  blk : w.heap[b]? = some (.cells #[pv, .slice (some ⟨gw, 0, none⟩) n n, .slice (some ⟨gb, 0, none⟩) n n] 85)
  low : B ≤ b
  places : w.ownsRow B 3 1 pv P.length (intCells P)
  waits : w.ownsRow B 3 1 (.slice (some ⟨gw, 0, none⟩) n n) n (intCells wt)
  behind : w.ownsRow B 26 1 (.slice (some ⟨gb, 0, none⟩) n n) n vs
  len : bh.length = n
  own : ∀ (i : Nat) (v : Value) (l : List Int), vs[i]? = some v → bh[i]? = some l → w.ownsRow B 3 1 v l.length (intCells l)
  apart : ∀ (i j : Nat) (v u : Value) (k : Nat), vs[i]? = some v → vs[j]? = some u → v.ownBlock = some k → u.ownBlock = some k → i = j
  pw : pv.ownBlock ≠ some gw
  vw : ∀ (i : Nat) (v : Value), vs[i]? = some v → v.ownBlock ≠ some gw
  vp : ∀ (i : Nat) (v : Value) (k : Nat), vs[i]? = some v → v.ownBlock = some k → pv.ownBlock ≠ some k
theorem three_new (w : World) (X Y Z : Obj) : (((w.alloc X).alloc Y).alloc Z).heap[w.heap.size]? = some X ∧ (((w.alloc X).alloc Y).alloc Z).heap[w.heap.size + 1]? = some Y ∧ (((w.alloc X).alloc Y).alloc Z).heap[w.heap.size + 1 + 1]? = some Z := by
  have b1 := Below.alloc (Below.refl (w.alloc X).heap.size (w.alloc X)) (Nat.le_refl _) Y
  have b2 := Below.alloc (Below.refl ((w.alloc X).alloc Y).heap.size ((w.alloc X).alloc Y)) (Nat.le_refl _) Z
  have s1 : (w.alloc X).heap.size = w.heap.size + 1 := by simp
  have s2 : ((w.alloc X).alloc Y).heap.size = w.heap.size + 1 + 1 := by simp
  refine ⟨?_, ?_, ?_⟩
  · rw [b2.block _ (by omega), b1.block _ (by omega)]; exact heap_alloc_new w X
  · rw [b2.block _ (by omega), ← s1]; exact heap_alloc_new _ Y
  · rw [← s2]; exact heap_alloc_new _ Z
theorem intCells_repl (n : Nat) : List.replicate n (Value.int .i64 0) = intCells (List.replicate n 0) := by simp [intCells]
theorem RowAt.new {W : World} {B b gw gb n : Nat} (hb : B ≤ b) (hw : B ≤ gw) (hg : B ≤ gb) (hn : n ≤ maxLen)
    (h0 : W.heap[b]? = some (.cells #[.slice none 0 0, .slice (some ⟨gw, 0, none⟩) n n, .slice (some ⟨gb, 0, none⟩) n n] 85))
    (h1 : W.heap[gw]? = some (.cells (madeCells (Value.int .i64 0).cells n) 3)) (h2 : W.heap[gb]? = some (.cells (madeCells (Value.slice none 0 0).cells n) 26)) :
    RowAt W B b gw gb n (.slice none 0 0) (List.replicate n (.slice none 0 0)) [] (List.replicate n 0) (List.replicate n []) := by
  have e1 : (madeCells (Value.int .i64 0).cells n).toList = intCells (List.replicate n 0) := by
    have := toList_madeCells_one (.int .i64 0) n
    exact this.trans (intCells_repl n)
  have e2 : (madeCells (Value.slice none 0 0).cells n).toList = List.replicate n (.slice none 0 0) := toList_madeCells_one (.slice none 0 0) n
  have z1 : (madeCells (Value.int .i64 0).cells n).size = n := by rw [← Array.length_toList, e1]; simp [intCells]
  have z2 : (madeCells (Value.slice none 0 0).cells n).size = n := by rw [← Array.length_toList, e2]; simp
  have nv : ∀ (i : Nat) (v : Value), (List.replicate n (Value.slice none 0 0))[i]? = some v → v = .slice none 0 0 := fun i v h => List.eq_of_mem_replicate (List.mem_of_getElem? h)
  refine ⟨h0, hb, World.ownsRow_nil _ _ _ _, ⟨by simp [intCells], .inr ⟨gw, n, _, rfl, hw, h1, Nat.le_refl _, hn, by omega, ?_⟩⟩, ⟨by simp, .inr ⟨gb, n, _, rfl, hg, h2, Nat.le_refl _, hn, by omega, ?_⟩⟩, by simp, ?_, ?_, by simp [Value.ownBlock], ?_, ?_⟩
  · rw [← e1]; exact List.take_of_length_le (by simp; omega)
  · rw [← e2]; exact List.take_of_length_le (by simp; omega)
  · intro i v l hv hl
    obtain rfl := nv i v hv
    obtain rfl := List.eq_of_mem_replicate (List.mem_of_getElem? hl)
    exact World.ownsRow_nil _ _ _ _
  · intro i j v u k hv hu hk
    rw [nv i v hv] at hk
    simp [Value.ownBlock] at hk
  · intro i v hv
    rw [nv i v hv]
    simp [Value.ownBlock]
  · intro i v k hv hk
    rw [nv i v hv] at hk
    simp [Value.ownBlock] at hk
section
variable (w : World)
set_option maxHeartbeats 1000000 in
set_option maxRecDepth 20000 in
theorem pnewRow (n : Nat) (hn : n ≤ 1000) :
    Calls Tryz.prog 27 #[.int .i64 n] w fun e w' => ∃ b gw gb, e = .returned (.pointer (some ⟨b, 0, none⟩)) ∧ Below w.heap.size w w' ∧
      RowAt w' w.heap.size b gw gb n (.slice none 0 0) (List.replicate n (.slice none 0 0)) [] (List.replicate n 0) (List.replicate n []) := by
  have hm1 : ∀ W : World, (Instr.makeSlice 26 (.int .i64 (n : Int)) (.int .i64 (n : Int))).run Tryz.prog W = .ok (.slice (some ⟨W.heap.size, 0, none⟩) n n) (W.alloc (.cells (madeCells #[.int .i64 0] n) 3)) := fun W => by
    obtain ⟨i0, hi0, hz0, hz1, hz2⟩ := info_parts info_int
    have := run_make (P := Tryz.prog) W 26 3 i0 (.int .i64 0) Tryz.underlying26 hi0 hz0 .i64 .i64 n n (by omega) (Int.le_refl _) (by rw [hz2]; omega) (by omega)
    rw [hz1, Int.toNat_natCast, Nat.mul_one] at this
    exact this
  have hm2 : ∀ W : World, (Instr.makeSlice 83 (.int .i64 (n : Int)) (.int .i64 (n : Int))).run Tryz.prog W = .ok (.slice (some ⟨W.heap.size, 0, none⟩) n n) (W.alloc (.cells (madeCells #[.slice none 0 0] n) 26)) := fun W => by
    obtain ⟨i0, hi0, hz0, hz1, hz2⟩ := info_parts info_ints
    have := run_make (P := Tryz.prog) W 83 26 i0 (.slice none 0 0) Tryz.underlying83 hi0 hz0 .i64 .i64 n n (by omega) (Int.le_refl _) (by rw [hz2]; omega) (by omega)
    rw [hz1, Int.toNat_natCast, Nat.mul_one] at this
    exact this
  go_enter Tryz.func27, Tryz.ntmps27
  go_wp2_with fail
  go_region_with fail
  all_goals go_wp2
  all_goals go_ret
  · refine ⟨w.heap.size + 1 + 1, w.heap.size, w.heap.size + 1, rfl, below_drew (below_al (below_al (below_al (Below.refl _ _) _) _) _), ?_⟩
    obtain ⟨a0, a1, a2⟩ := three_new w (.cells (madeCells (Value.int .i64 0).cells n) 3) (.cells (madeCells (Value.slice none 0 0).cells n) 26) (.cells #[.slice none 0 0, .slice (some ⟨w.heap.size, 0, none⟩) n n, .slice (some ⟨w.heap.size + 1, 0, none⟩) n n] 85)
    exact RowAt.new (by omega) (by omega) (by omega) (by unfold maxLen; omega) a2 a0 a1
  · refine ⟨w.heap.size + 1 + 1, w.heap.size + 1, w.heap.size, rfl, below_drew (below_al (below_al (below_al (Below.refl _ _) _) _) _), ?_⟩
    obtain ⟨a0, a1, a2⟩ := three_new w (.cells (madeCells (Value.slice none 0 0).cells n) 26) (.cells (madeCells (Value.int .i64 0).cells n) 3) (.cells #[.slice none 0 0, .slice (some ⟨w.heap.size + 1, 0, none⟩) n n, .slice (some ⟨w.heap.size, 0, none⟩) n n] 85)
    exact RowAt.new (by omega) (by omega) (by omega) (by unfold maxLen; omega) a2 a1 a0
end
end Go.Proofs.YtdaphajnioiakaaGreatDoor
namespace Go.Proofs.YtdaphajnioiakaaGreatDoor
open Go.RowKit
set_option linter.unusedVariables false
set_option linter.unusedSimpArgs false
theorem own_type {w : World} {B e z n k : Nat} {v : Value} {xs : List Value} (h : w.ownsRow B e z v n xs) (hk : v.ownBlock = some k) : B ≤ k ∧ ∃ cur, w.heap[k]? = some (.cells cur e) := by
  rcases h.2 with ⟨rfl, h0⟩ | ⟨g, cap, cur, rfl, hB, hg, r⟩
  · simp [Value.ownBlock] at hk
  · simp [Value.ownBlock] at hk
    subst hk
    exact ⟨hB, cur, hg⟩
theorem type_ne {w : World} {k j : Nat} {c d : Array Value} {s t : TypeId} (h : w.heap[k]? = some (.cells c s)) (h2 : w.heap[j]? = some (.cells d t)) (hst : s ≠ t) : k ≠ j := fun e => by
  rw [e, h2] at h
  simp at h
  exact hst h.2.symm
theorem own_move {w w' : World} {B e z n : Nat} {v : Value} {xs : List Value} (h : w.ownsRow B e z v n xs) (hk : ∀ k, v.ownBlock = some k → w'.heap[k]? = w.heap[k]?) : w'.ownsRow B e z v n xs := by
  refine ⟨h.1, ?_⟩
  rcases h.2 with hn | ⟨g, cap, cur, rfl, hbg, hg, r⟩
  · exact .inl hn
  · exact .inr ⟨g, cap, cur, rfl, hbg, (hk g rfl).trans hg, r⟩
section
variable {w : World} {B b gw gb n : Nat} {pv : Value} {vs : List Value} {P wt : List Int} {bh : List (List Int)}
theorem RowAt.gw_type (h : RowAt w B b gw gb n pv vs P wt bh) : B ≤ gw ∧ ∃ c, w.heap[gw]? = some (.cells c 3) := own_type h.waits rfl
theorem RowAt.gb_type (h : RowAt w B b gw gb n pv vs P wt bh) : B ≤ gb ∧ ∃ c, w.heap[gb]? = some (.cells c 26) := own_type h.behind rfl
theorem RowAt.vlen (h : RowAt w B b gw gb n pv vs P wt bh) : vs.length = n := by have := h.behind.1; omega
theorem RowAt.wlen (h : RowAt w B b gw gb n pv vs P wt bh) : wt.length = n := by have := h.waits.1; simp [intCells] at this; exact this
theorem RowAt.nes (h : RowAt w B b gw gb n pv vs P wt bh) : gw ≠ b ∧ gb ≠ b ∧ gw ≠ gb := by
  obtain ⟨-, c1, h1⟩ := h.gw_type
  obtain ⟨-, c2, h2⟩ := h.gb_type
  exact ⟨type_ne h1 h.blk (by decide), type_ne h2 h.blk (by decide), type_ne h1 h2 (by decide)⟩
theorem RowAt.pne (h : RowAt w B b gw gb n pv vs P wt bh) {k : Nat} (hk : pv.ownBlock = some k) : B ≤ k ∧ k < w.heap.size ∧ k ≠ b ∧ k ≠ gb ∧ k ≠ gw := by
  obtain ⟨hB, c, hc⟩ := own_type h.places hk
  obtain ⟨-, c2, h2⟩ := h.gb_type
  exact ⟨hB, (Array.getElem?_eq_some_iff.1 hc).1, type_ne hc h.blk (by decide), type_ne hc h2 (by decide), fun e => h.pw (by rw [hk, e])⟩
theorem RowAt.vne (h : RowAt w B b gw gb n pv vs P wt bh) {i k : Nat} {v : Value} (hv : vs[i]? = some v) (hk : v.ownBlock = some k) : B ≤ k ∧ k < w.heap.size ∧ k ≠ b ∧ k ≠ gb ∧ k ≠ gw := by
  have hlt : i < bh.length := by have := (List.getElem?_eq_some_iff.1 hv).1; have := h.vlen; have := h.len; omega
  obtain ⟨hB, c, hc⟩ := own_type (h.own i v bh[i] hv (List.getElem?_eq_getElem hlt)) hk
  obtain ⟨-, c2, h2⟩ := h.gb_type
  exact ⟨hB, (Array.getElem?_eq_some_iff.1 hc).1, type_ne hc h.blk (by decide), type_ne hc h2 (by decide), fun e => h.vw i v hv (by rw [hk, e])⟩
theorem RowAt.lts (h : RowAt w B b gw gb n pv vs P wt bh) : b < w.heap.size ∧ gw < w.heap.size ∧ gb < w.heap.size := by
  obtain ⟨-, c1, h1⟩ := h.gw_type
  obtain ⟨-, c2, h2⟩ := h.gb_type
  exact ⟨(Array.getElem?_eq_some_iff.1 h.blk).1, (Array.getElem?_eq_some_iff.1 h1).1, (Array.getElem?_eq_some_iff.1 h2).1⟩
theorem RowAt.below {w' : World} (h : RowAt w B b gw gb n pv vs P wt bh) (hb : Below w.heap.size w w') : RowAt w' B b gw gb n pv vs P wt bh :=
  ⟨(hb.block b h.lts.1).trans h.blk, h.low, own_below h.places hb, own_below h.waits hb, own_below h.behind hb, h.len, fun i v l hv hl => own_below (h.own i v l hv hl) hb, h.apart, h.pw, h.vw, h.vp⟩
theorem RowAt.cells (h : RowAt w B b gw gb n pv vs P wt bh) : (w.cell? ⟨b, 0, none⟩ = some pv ∧ w.cell? ⟨b, 1, none⟩ = some (.slice (some ⟨gw, 0, none⟩) n n) ∧ w.cell? ⟨b, 2, none⟩ = some (.slice (some ⟨gb, 0, none⟩) n n)) ∧ w.frozen? ⟨b, 0, none⟩ = false ∧ w.frozen? ⟨b, 1, none⟩ = false ∧ w.frozen? ⟨b, 2, none⟩ = false :=
  ⟨⟨cell_of_row _ _ 0 _ _ _ h.blk, cell_of_row _ _ 1 _ _ _ h.blk, cell_of_row _ _ 2 _ _ _ h.blk⟩, by simp [World.frozen?, h.blk], by simp [World.frozen?, h.blk], by simp [World.frozen?, h.blk]⟩
theorem RowAt.wcell (h : RowAt w B b gw gb n pv vs P wt bh) {i : Nat} {x : Int} (hx : wt[i]? = some x) : w.cell? ⟨gw, i, none⟩ = some (.int .i64 x) ∧ w.frozen? ⟨gw, i, none⟩ = false := by
  have hi : i < n := by have := (List.getElem?_eq_some_iff.1 hx).1; have := h.wlen; omega
  refine ⟨?_, World.ownsRow.frozenAt h.waits i⟩
  rw [World.ownsRow.cellAt h.waits i (by omega)]
  simp [intCells, hx]
theorem RowAt.bcell (h : RowAt w B b gw gb n pv vs P wt bh) {i : Nat} {v : Value} (hv : vs[i]? = some v) : w.cell? ⟨gb, i, none⟩ = some v ∧ w.frozen? ⟨gb, i, none⟩ = false := by
  have hi : i < n := by have := (List.getElem?_eq_some_iff.1 hv).1; have := h.vlen; omega
  refine ⟨?_, World.ownsRow.frozenAt h.behind i⟩
  rw [World.ownsRow.cellAt h.behind i (by omega)]
  exact hv
theorem intCells_set (l : List Int) (i : Nat) (x : Int) : (intCells l).set i (.int .i64 x) = intCells (l.set i x) := by unfold intCells; rw [List.map_set]
theorem intCells_app (l m : List Int) : intCells (l ++ m) = intCells l ++ intCells m := by simp [intCells]
/-- A store into the row of waits. -/
theorem RowAt.setWait (h : RowAt w B b gw gb n pv vs P wt bh) (i : Nat) (x : Int) : RowAt (w.setCell ⟨gw, i, none⟩ (.int .i64 x)) B b gw gb n pv vs P (wt.set i x) bh ∧ Below B w (w.setCell ⟨gw, i, none⟩ (.int .i64 x)) := by
  obtain ⟨o1, o2⟩ := World.ownsRow.stored h.waits i (.int .i64 x)
  rw [intCells_set] at o1
  obtain ⟨n1, n2, n3⟩ := h.nes
  obtain ⟨l1, l2, l3⟩ := h.lts
  have mv : ∀ k, k < w.heap.size → k ≠ gw → (w.setCell ⟨gw, i, none⟩ (.int .i64 x)).heap[k]? = w.heap[k]? := fun k hk hne => o2.block k hk (by simpa using hne)
  refine ⟨⟨(mv b l1 (Ne.symm n1)).trans h.blk, h.low, own_move h.places (fun k hk => mv k (h.pne hk).2.1 (h.pne hk).2.2.2.2), o1, own_move h.behind (fun k hk => ?_), h.len, fun j v l hv hl => own_move (h.own j v l hv hl) (fun k hk => mv k (h.vne hv hk).2.1 (h.vne hv hk).2.2.2.2), h.apart, h.pw, h.vw, h.vp⟩, (Below.refl B w).setCell h.gw_type.1 _⟩
  · simp [Value.ownBlock] at hk
    subst hk
    exact mv gb l3 (Ne.symm n3)
/-- Behind an append to what comes behind a place: the blocks of the row itself are as they were. -/
theorem RowAt.far (h : RowAt w B b gw gb n pv vs P wt bh) {w1 : World} {f : Nat} {vf : Value} (hf : vs[f]? = some vf) (hg : w.grownBy w1 vf.ownBlock) :
    w1.heap[b]? = w.heap[b]? ∧ w1.heap[gw]? = w.heap[gw]? ∧ w1.heap[gb]? = w.heap[gb]? := by
  obtain ⟨l1, l2, l3⟩ := h.lts
  exact ⟨hg.block b l1 (fun e => (h.vne hf e.symm).2.2.1 rfl), hg.block gw l2 (fun e => (h.vne hf e.symm).2.2.2.2 rfl), hg.block gb l3 (fun e => (h.vne hf e.symm).2.2.2.1 rfl)⟩
/-- A block that lies before, and is none of the row's. -/
def ClearV (w : World) (gw gb : Nat) (vs : List Value) (k : Nat) : Prop := k < w.heap.size ∧ k ≠ gw ∧ k ≠ gb ∧ ∀ (i : Nat) (v : Value), vs[i]? = some v → v.ownBlock ≠ some k
theorem RowAt.put (h : RowAt w B b gw gb n pv vs P wt bh) {w1 : World} {f H : Nat} {vf v' : Value} {l l' : List Int} (hf : vs[f]? = some vf) (hl : bh[f]? = some l) (hg : w.grownBy w1 vf.ownBlock) (hH : w.heap.size ≤ H)
    (ho : w1.ownsRow B 3 1 v' l'.length (intCells l')) (hv' : v'.ownBlock = vf.ownBlock ∨ v'.ownBlock = some H) :
    RowAt (w1.setCell ⟨gb, f, none⟩ v') B b gw gb n pv (vs.set f v') P wt (bh.set f l') ∧ Below B w (w1.setCell ⟨gb, f, none⟩ v') ∧ ∀ k, ClearV w gw gb vs k → (w1.setCell ⟨gb, f, none⟩ v').heap[k]? = w.heap[k]? ∧ ClearV (w1.setCell ⟨gb, f, none⟩ v') gw gb (vs.set f v') k := by
  obtain ⟨n1, n2, n3⟩ := h.nes
  obtain ⟨l1, l2, l3⟩ := h.lts
  obtain ⟨f1, f2, f3⟩ := h.far hf hg
  have hbeh : w1.ownsRow B 26 1 (.slice (some ⟨gb, 0, none⟩) n n) n vs := own_move h.behind (fun k hk => by simp [Value.ownBlock] at hk; subst hk; exact f3)
  obtain ⟨o1, o2⟩ := World.ownsRow.stored hbeh f v'
  have hvlt : ∀ k, v'.ownBlock = some k → k < w1.heap.size ∧ B ≤ k := fun k hk => ⟨(World.ownsRow.lt ho k hk).2, (World.ownsRow.lt ho k hk).1⟩
  have mv : ∀ k, k < w1.heap.size → k ≠ gb → (w1.setCell ⟨gb, f, none⟩ v').heap[k]? = w1.heap[k]? := fun k hk hne => o2.block k hk (by simpa using hne)
  have mw : ∀ k, k < w.heap.size → k ≠ gb → vf.ownBlock ≠ some k → (w1.setCell ⟨gb, f, none⟩ v').heap[k]? = w.heap[k]? := fun k hk hne hvf => (mv k (Nat.lt_of_lt_of_le hk hg.size) hne).trans (hg.block k hk (Ne.symm hvf))
  have hpv : ∀ k, pv.ownBlock = some k → (w1.setCell ⟨gb, f, none⟩ v').heap[k]? = w.heap[k]? := fun k hk => mw k (h.pne hk).2.1 (h.pne hk).2.2.2.1 (fun e => h.vp f vf k hf e hk)
  have hfl : f < vs.length := (List.getElem?_eq_some_iff.1 hf).1
  have hvgb : ∀ k, v'.ownBlock = some k → k ≠ gb ∧ k ≠ gw ∧ pv.ownBlock ≠ some k ∧ ∀ j u, j ≠ f → vs[j]? = some u → u.ownBlock ≠ some k := by
    intro k hk
    rcases hv' with e | e
    · rw [e] at hk
      have q := h.vne hf hk
      exact ⟨q.2.2.2.1, q.2.2.2.2, h.vp f vf k hf hk, fun j u hj hu hku => hj (h.apart j f u vf k hu hf hku hk)⟩
    · rw [e] at hk
      simp at hk
      subst hk
      exact ⟨by omega, by omega, fun e => by have := (h.pne e).2.1; omega, fun j u hj hu hku => by have := (h.vne hu hku).2.1; omega⟩
  refine ⟨⟨?_, h.low, own_move h.places hpv, ?_, o1, by simp [h.len], ?_, ?_, h.pw, ?_, ?_⟩, ?_, ?_⟩
  · exact ((mv b (by have := hg.size; omega) (Ne.symm n2)).trans f1).trans h.blk
  · refine own_move h.waits (fun k hk => ?_)
    simp [Value.ownBlock] at hk
    subst hk
    exact (mv gw (by have := hg.size; omega) n3).trans f2
  · intro j u m hu hm
    by_cases hj : j = f
    · subst hj
      rw [List.getElem?_set_self hfl] at hu
      rw [List.getElem?_set_self (by have := h.vlen; have := h.len; omega)] at hm
      cases hu; cases hm
      exact own_move ho (fun k hk => mv k (hvlt k hk).1 (hvgb k hk).1)
    · rw [List.getElem?_set_ne (Ne.symm hj)] at hu hm
      exact own_move (h.own j u m hu hm) (fun k hk => mw k (h.vne hu hk).2.1 (h.vne hu hk).2.2.2.1 (fun e => hj (h.apart j f u vf k hu hf hk e)))
  · intro i j v u k hv hu hkv hku
    by_cases hi : i = f
    · by_cases hj : j = f
      · rw [hi, hj]
      · subst hi
        rw [List.getElem?_set_self hfl] at hv
        rw [List.getElem?_set_ne (Ne.symm hj)] at hu
        cases hv
        exact absurd hku ((hvgb k hkv).2.2.2 j u hj hu)
    · by_cases hj : j = f
      · subst hj
        rw [List.getElem?_set_self hfl] at hu
        rw [List.getElem?_set_ne (Ne.symm hi)] at hv
        cases hu
        exact absurd hkv ((hvgb k hku).2.2.2 i v hi hv)
      · rw [List.getElem?_set_ne (Ne.symm hi)] at hv
        rw [List.getElem?_set_ne (Ne.symm hj)] at hu
        exact h.apart i j v u k hv hu hkv hku
  · intro i v hv
    by_cases hi : i = f
    · subst hi
      rw [List.getElem?_set_self hfl] at hv
      cases hv
      exact fun e => (hvgb gw e).2.1 rfl
    · rw [List.getElem?_set_ne (Ne.symm hi)] at hv
      exact h.vw i v hv
  · intro i v k hv hk
    by_cases hi : i = f
    · subst hi
      rw [List.getElem?_set_self hfl] at hv
      cases hv
      exact (hvgb k hk).2.2.1
    · rw [List.getElem?_set_ne (Ne.symm hi)] at hv
      exact h.vp i v k hv hk
  · refine Below.setCell (Below.grown (Below.refl B w) hg (by have := h.low; omega) (fun k hk => (h.vne hf hk).1)) h.gb_type.1 _
  · rintro k ⟨k1, k2, k3, k4⟩
    refine ⟨mw k k1 k3 (k4 f vf hf), by have := hg.size; simp; omega, k2, k3, fun i v hv => ?_⟩
    by_cases hi : i = f
    · subst hi
      rw [List.getElem?_set_self hfl] at hv
      cases hv
      rcases hv' with e | e
      · rw [e]; exact k4 i vf hf
      · rw [e]; simp; omega
    · rw [List.getElem?_set_ne (Ne.symm hi)] at hv
      exact k4 i v hv
end
end Go.Proofs.YtdaphajnioiakaaGreatDoor
namespace Go.Proofs.YtdaphajnioiakaaGreatDoor
open Go.RowKit
set_option linter.unusedVariables false
set_option linter.unusedSimpArgs false
theorem grown_drewA {w w6 : World} {O : Obj} {row : Option Nat} (h : (w.alloc O).drew.grownBy w6 row) : w.grownBy w6 row :=
  grown_trans (World.grownBy_alloc w O row) ⟨h.os, h.tape, h.output, h.size, h.block⟩
section
variable (w : World)
set_option maxHeartbeats 2000000 in
set_option maxRecDepth 20000 in
theorem pput (B b gw gb n : Nat) (pv : Value) (vs : List Value) (P wt : List Int) (bh : List (List Int)) (h : RowAt w B b gw gb n pv vs P wt bh) (i f : Nat) (x : Int) (l : List Int) (hx : wt[i]? = some x) (hl : bh[f]? = some l) (hn : n ≤ 1000) (hll : l.length ≤ 100000) (hx0 : 0 ≤ x) (hx1 : x < 1000000) :
    Calls Tryz.prog 29 #[.pointer (some ⟨b, 0, none⟩), .int .i64 i, .int .i64 f] w fun e w' => e = .returned (.tuple #[]) ∧ Below B w w' ∧ ∃ vs', RowAt w' B b gw gb n pv vs' P (wt.set i (x + 1)) (bh.set f (l ++ [(i : Int)])) ∧ ∀ k, ClearV w gw gb vs k → w'.heap[k]? = w.heap[k]? ∧ ClearV w' gw gb vs' k := by
  have hi : i < n := by have := (List.getElem?_eq_some_iff.1 hx).1; have := h.wlen; omega
  have hf : f < n := by have := (List.getElem?_eq_some_iff.1 hl).1; have := h.len; omega
  obtain ⟨vf, hvf⟩ : ∃ vf, vs[f]? = some vf := ⟨_, List.getElem?_eq_getElem (by rw [h.vlen]; exact hf)⟩
  obtain ⟨i0, hi0, hz0, hz1, hz2⟩ := info_parts info_int
  obtain ⟨h1, hb1⟩ := h.setWait i (x + 1)
  have LW := Lib.hid h.low
  have C1 := Lib.hid (show ∀ k, ClearV w gw gb vs k → (w.setCell ⟨gw, i, none⟩ (.int .i64 (x + 1))).heap[k]? = w.heap[k]? ∧ ClearV (w.setCell ⟨gw, i, none⟩ (.int .i64 (x + 1))) gw gb vs k from
    fun k hk => ⟨heap_setCell_other w ⟨gw, i, none⟩ k _ hk.2.1, by have := hk.1; simpa [World.setCell] using this, hk.2⟩)
  obtain ⟨⟨c0, c1, c2⟩, f0, f1, f2⟩ := h.cells
  obtain ⟨cx, fx⟩ := h.wcell hx
  have hwr : wrap64 (x + 1) = x + 1 := by unfold wrap64; omega
  have H1 := Lib.hid h1
  have B1 := Lib.hid hb1
  have HL := Lib.hid hl
  have HVF := Lib.hid hvf
  have HLL := Lib.hid hll
  have q0 : (0 : Int) ≤ (f : Int) := by omega
  have q1 : (f : Int) < (n : Int) := by omega
  clear h h1 hb1 hl hx hx0 hx1 hvf hll
  go_enter Tryz.func29, Tryz.ntmps29
  go_wp2_with fail
  rw [hwr]
  clear c0 c1 c2 f0 f1 f2 cx fx hwr
  generalize w.setCell ⟨gw, i, none⟩ (.int .i64 (x + 1)) = w0 at *
  obtain ⟨⟨c0, c1, c2⟩, f0, f1, f2⟩ := H1.out.cells
  obtain ⟨cv, fv⟩ := H1.out.bcell HVF.out
  have ho := H1.out.own f vf l HVF.out HL.out
  obtain ⟨vo, vc, rfl⟩ : ∃ ao cap, vf = .slice ao l.length cap := by
    rcases ho.2 with ⟨rfl, h0⟩ | ⟨g, cap, cur, rfl, _⟩
    · rw [h0]; exact ⟨_, _, rfl⟩
    · exact ⟨_, _, rfl⟩
  have HO := Lib.hid ho
  have LT := Lib.hid H1.out.lts
  clear ho
  have KA : ∀ O : Obj, (w0.alloc O).drew.cell? ⟨b, 2, none⟩ = some (.slice (some ⟨gb, 0, none⟩) n n) ∧ (w0.alloc O).drew.cell? ⟨gb, f, none⟩ = some (.slice vo l.length vc) ∧ (w0.alloc O).drew.frozen? ⟨gb, f, none⟩ = false := fun O =>
    have k := below_drew (below_al (Below.refl w0.heap.size w0) O)
    ⟨hold k c2, hold k cv, (k.frozen (p := ⟨gb, f, none⟩) LT.out.2.2).trans fv⟩
  have KG : ∀ (O : Obj) (w6 : World), (w0.alloc O).drew.grownBy w6 (Value.slice vo l.length vc).ownBlock → w6.cell? ⟨b, 2, none⟩ = some (.slice (some ⟨gb, 0, none⟩) n n) ∧ w6.cell? ⟨gb, f, none⟩ = some (.slice vo l.length vc) ∧ w6.frozen? ⟨gb, f, none⟩ = false := fun O w6 hg => by
    obtain ⟨k1, k2, k3⟩ := H1.out.far HVF.out (grown_drewA hg)
    exact ⟨(World.cell?_of_block (a := ⟨b, 2, none⟩) k1).trans c2, (World.cell?_of_block (a := ⟨gb, f, none⟩) k3).trans cv, (World.frozen?_of_block (a := ⟨gb, f, none⟩) k3).trans fv⟩
  obtain ⟨a1, a2, a3⟩ : (w0.alloc (.cells #[.int .i64 (i : Int)] 3)).cell? ⟨b, 2, none⟩ = some (.slice (some ⟨gb, 0, none⟩) n n) ∧ (w0.alloc (.cells #[.int .i64 (i : Int)] 3)).cell? ⟨gb, f, none⟩ = some (.slice vo l.length vc) ∧ (w0.alloc (.cells #[.int .i64 (i : Int)] 3)).frozen? ⟨gb, f, none⟩ = false := KA _
  replace KA := Lib.hid KA
  replace KG := Lib.hid KG
  go_region_law (first | (refine step_append_lies _ (by rfl) _ _ _ (by rfl) B 3 i0 (.int .i64 0) 1 8 Tryz.underlying26 hi0 hz0 hz1 hz2 rfl (by decide) (.slice vo l.length vc) l.length (intCells l) (by rfl) (by exact (World.ownsRow.alloc HO.out _)) ⟨w0.heap.size, 0, none⟩ 1 1 [.int .i64 (i : Int)] (by rfl) (by rfl) (by exact (news_new w0 #[.int .i64 (i : Int)] 3)) (by simp [Value.oneCell']) (by decide) (by have := HLL.out; unfold maxLen; omega) (by have := HLL.out; omega) (by have := LW.out; have := LT.out; simp; omega) (w0.heap.size + 1) (by simp) ?_; intro gg cc w6 hown' hgrow hat hlt; obtain ⟨g1, g2, g3⟩ := KG.out _ _ hgrow))
  all_goals go_wp2
  all_goals
    have hown2 : w6.ownsRow B 3 1 (.slice (some ⟨gg, 0, none⟩) (l.length + 1) cc) (l ++ [(i : Int)]).length (intCells (l ++ [(i : Int)])) := by
      rw [List.length_append, intCells_app]; exact hown'
  all_goals obtain ⟨r1, r2, r3⟩ := H1.out.put HVF.out HL.out (grown_drewA hgrow) (H := w0.heap.size + 1) (Nat.le_succ _) hown2 (by
    rcases hat with h | h
    · exact .inl h.symm
    · exact .inr (by rw [h]; rfl))
  all_goals exact bodyPost_end (v := .tuple #[]) (by simp [results, Tryz.results29, go_sem]) rfl ⟨rfl, B1.out.trans r2, _, r1, fun k hk => ⟨(r3 k (C1.out k hk).2).1.trans (C1.out k hk).1, (r3 k (C1.out k hk).2).2⟩⟩
end
end Go.Proofs.YtdaphajnioiakaaGreatDoor
