/- Rows that grow side by side, beside literals that stay. -/
import Derived.Test.YtlkdicabmikhkaaGreatDoorLcA
import Derived.Deep.AppendLies
namespace Go.Proofs.YtlkdicabmikhkaaGreatDoor
open Go.RowKit Go.Sort
set_option linter.unusedVariables false
set_option linter.unusedSimpArgs false
/-- What hangs on the blocks of a set alone. -/
def Cont (K : Nat → Prop) (w : World) (R : World → Prop) : Prop := ∀ w' : World, (∀ k, K k → w'.heap[k]? = w.heap[k]?) → R w'
theorem Cont.here {K : Nat → Prop} {w : World} {R : World → Prop} (h : Cont K w R) : R w := h w fun _ _ => rfl
theorem Cont.keep {K K' : Nat → Prop} {w w' : World} {R : World → Prop} (h : Cont K w R) (hK : ∀ k, K k → K' k) (hs : ∀ k, K k → w'.heap[k]? = w.heap[k]?) : Cont K' w' R := fun w'' h2 => h w'' fun k hk => (h2 k (hK k hk)).trans (hs k hk)
theorem own_ne {w : World} {B B' e e' z z' n n' : Nat} {v v' : Value} {xs xs' : List Value} (h : w.ownsRow B e z v n xs) (h' : w.ownsRow B' e' z' v' n' xs') (he : e ≠ e') : ∀ k, v.ownBlock = some k → v'.ownBlock ≠ some k := by
  intro k hk hk'
  rcases h.2 with ⟨rfl, -⟩ | ⟨g, c, cur, rfl, -, hg, -⟩
  · cases hk
  rcases h'.2 with ⟨rfl, -⟩ | ⟨g', c', cur', rfl, -, hg', -⟩
  · cases hk'
  simp only [Value.ownBlock, Option.some.injEq] at hk hk'
  subst hk hk'
  rw [hg] at hg'
  simp at hg'
  exact he hg'.2
theorem own_stay {w w' : World} {B e z n : Nat} {v : Value} {xs : List Value} (h : w.ownsRow B e z v n xs) (hs : ∀ k, v.ownBlock = some k → w'.heap[k]? = w.heap[k]?) : w'.ownsRow B e z v n xs := by
  refine ⟨h.1, ?_⟩
  rcases h.2 with hn | ⟨g, cap, cur, rfl, hbg, hg, r⟩
  · exact .inl hn
  · exact .inr ⟨g, cap, cur, rfl, hbg, (hs g rfl).trans hg, r⟩
/-- A row of attributes with the expressions' own slices; what they hold. -/
def aCells (ps : List ((ByteArray × List NodeL) × Value)) : List Value := ps.flatMap fun p => [.string p.1.1, p.2]
def CA (K : Nat → Prop) (w : World) (ps : List ((ByteArray × List NodeL) × Value)) : Prop := ∀ p ∈ ps, Cont K w fun w' => NodesRd w' p.2 p.1.2
def bCells (ps : List (BlkL × Value × Value)) : List Value := ps.flatMap fun p => [.int .i64 p.1.kind, .string p.1.label, p.2.1, p.2.2]
def CB (K : Nat → Prop) (w : World) (ps : List (BlkL × Value × Value)) : Prop := ∀ p ∈ ps, Cont K w fun w' => AttrsRd w' p.2.1 p.1.attrs ∧ BlksRd 1 w' p.2.2 p.1.blocks
theorem CA.keep {K K' : Nat → Prop} {w w' : World} {ps : List ((ByteArray × List NodeL) × Value)} (h : CA K w ps) (hK : ∀ k, K k → K' k) (hs : ∀ k, K k → w'.heap[k]? = w.heap[k]?) : CA K' w' ps := fun p hp => (h p hp).keep hK hs
theorem CB.keep {K K' : Nat → Prop} {w w' : World} {ps : List (BlkL × Value × Value)} (h : CB K w ps) (hK : ∀ k, K k → K' k) (hs : ∀ k, K k → w'.heap[k]? = w.heap[k]?) : CB K' w' ps := fun p hp => (h p hp).keep hK hs
theorem CA.snoc {K : Nat → Prop} {w : World} {ps : List ((ByteArray × List NodeL) × Value)} {p : (ByteArray × List NodeL) × Value} (h : CA K w ps) (hp : Cont K w fun w' => NodesRd w' p.2 p.1.2) : CA K w (ps ++ [p]) := fun q hq => by
  rcases List.mem_append.1 hq with hq | hq
  · exact h q hq
  · obtain rfl : q = p := by simpa using hq
    exact hp
theorem CB.snoc {K : Nat → Prop} {w : World} {ps : List (BlkL × Value × Value)} {p : BlkL × Value × Value} (h : CB K w ps) (hp : Cont K w fun w' => AttrsRd w' p.2.1 p.1.attrs ∧ BlksRd 1 w' p.2.2 p.1.blocks) : CB K w (ps ++ [p]) := fun q hq => by
  rcases List.mem_append.1 hq with hq | hq
  · exact h q hq
  · obtain rfl : q = p := by simpa using hq
    exact hp
theorem CB.app {K : Nat → Prop} {w : World} {ps qs : List (BlkL × Value × Value)} (h : CB K w ps) (hq : CB K w qs) : CB K w (ps ++ qs) := fun q hm => by
  rcases List.mem_append.1 hm with hm | hm
  · exact h q hm
  · exact hq q hm
theorem aCells_at : ∀ (ps : List ((ByteArray × List NodeL) × Value)) (i : Nat) (p : (ByteArray × List NodeL) × Value), ps[i]? = some p → (aCells ps)[i * 2]? = some (.string p.1.1) ∧ (aCells ps)[i * 2 + 1]? = some p.2 := by
  intro ps
  induction ps with
  | nil => intro i p h; simp at h
  | cons a ps ih =>
    intro i p h
    show ((Value.string a.1.1) :: a.2 :: aCells ps)[i * 2]? = _ ∧ ((Value.string a.1.1) :: a.2 :: aCells ps)[i * 2 + 1]? = _
    cases i with
    | zero => simp at h; subst h; exact ⟨rfl, rfl⟩
    | succ i =>
      obtain ⟨h1, h2⟩ := ih i p (by simpa using h)
      refine ⟨?_, ?_⟩
      · rw [← h1, show (i + 1) * 2 = (i * 2 + 1) + 1 by omega]; rfl
      · rw [← h2, show (i + 1) * 2 + 1 = (i * 2 + 1 + 1) + 1 by omega]; rfl
theorem bCells_at : ∀ (ps : List (BlkL × Value × Value)) (i : Nat) (p : BlkL × Value × Value), ps[i]? = some p → (bCells ps)[i * 4]? = some (.int .i64 p.1.kind) ∧ (bCells ps)[i * 4 + 1]? = some (.string p.1.label) ∧ (bCells ps)[i * 4 + 2]? = some p.2.1 ∧ (bCells ps)[i * 4 + 3]? = some p.2.2 := by
  intro ps
  induction ps with
  | nil => intro i p h; simp at h
  | cons a ps ih =>
    intro i p h
    have e : bCells (a :: ps) = (.int .i64 a.1.kind) :: (.string a.1.label) :: a.2.1 :: a.2.2 :: bCells ps := rfl
    rw [e]
    cases i with
    | zero => simp at h; subst h; exact ⟨rfl, rfl, rfl, rfl⟩
    | succ i =>
      obtain ⟨h1, h2, h3, h4⟩ := ih i p (by simpa using h)
      refine ⟨?_, ?_, ?_, ?_⟩
      · rw [← h1, show (i + 1) * 4 = (i * 4) + 1 + 1 + 1 + 1 by omega]; rfl
      · rw [← h2, show (i + 1) * 4 + 1 = (i * 4 + 1) + 1 + 1 + 1 + 1 by omega]; rfl
      · rw [← h3, show (i + 1) * 4 + 2 = (i * 4 + 2) + 1 + 1 + 1 + 1 by omega]; rfl
      · rw [← h4, show (i + 1) * 4 + 3 = (i * 4 + 3) + 1 + 1 + 1 + 1 by omega]; rfl
theorem own_cell {w : World} {B e z n : Nat} {v : Value} {xs : List Value} (h : w.ownsRow B e z v n xs) (hn : 0 < n) : ∃ g cap, v = .slice (some ⟨g, 0, none⟩) n cap ∧ ∀ j u, xs[j]? = some u → w.cell? ⟨g, j, none⟩ = some u := by
  rcases h.2 with ⟨-, h0⟩ | ⟨g, cap, cur, rfl, -⟩
  · omega
  · refine ⟨g, cap, rfl, fun j u hu => ?_⟩
    have := World.ownsRow.cells (g := g) h rfl j u hu
    have ha : (⟨g, 0, none⟩ : Addr).add j = ⟨g, 0 + j, none⟩ := by unfold Addr.add; split <;> simp_all
    rw [ha, Nat.zero_add] at this
    exact this
theorem attrs_own {w : World} {K : Nat → Prop} {B n : Nat} {v : Value} {ps : List ((ByteArray × List NodeL) × Value)} (h : w.ownsRow B 38 2 v n (aCells ps)) (hn : n = ps.length) (hc : CA K w ps) : AttrsRd w v (ps.map (·.1)) := by
  subst hn
  obtain ⟨ao, cap, rfl⟩ := own_lenR h
  refine ⟨ao, cap, by simp, fun i a hi => ?_⟩
  rw [List.getElem?_map] at hi
  obtain ⟨p, hp, rfl⟩ := Option.map_eq_some_iff.1 hi
  obtain ⟨g, cap', e, hcell⟩ := own_cell h (by have := (List.getElem?_eq_some_iff.1 hp).1; omega)
  simp only [Value.slice.injEq, true_and] at e
  obtain ⟨rfl, -⟩ := e
  obtain ⟨k1, k2⟩ := aCells_at ps i p hp
  have hn := (hc p (List.mem_of_getElem? hp)).here
  obtain ⟨no, nc, e2, -⟩ := hn.at
  exact ⟨g, 0, no, nc, rfl, by rw [Nat.zero_add]; exact hcell _ _ k1, by rw [Nat.zero_add, ← e2]; exact hcell _ _ k2, by rw [← e2]; exact hn⟩
theorem blks_own {w : World} {K : Nat → Prop} {B n : Nat} {v : Value} {ps : List (BlkL × Value × Value)} (h : w.ownsRow B 28 4 v n (bCells ps)) (hn : n = ps.length) (hc : CB K w ps) : BlksRd 2 w v (ps.map (·.1)) := by
  subst hn
  obtain ⟨ao, cap, rfl⟩ := own_lenR h
  refine ⟨ao, cap, by simp, fun i a hi => ?_⟩
  rw [List.getElem?_map] at hi
  obtain ⟨p, hp, rfl⟩ := Option.map_eq_some_iff.1 hi
  obtain ⟨g, cap', e, hcell⟩ := own_cell h (by have := (List.getElem?_eq_some_iff.1 hp).1; omega)
  simp only [Value.slice.injEq, true_and] at e
  obtain ⟨rfl, -⟩ := e
  obtain ⟨k1, k2, k3, k4⟩ := bCells_at ps i p hp
  obtain ⟨ha, hb⟩ := (hc p (List.mem_of_getElem? hp)).here
  obtain ⟨ao1, ac1, e1, -⟩ := id ha
  obtain ⟨bo1, bc1, e2⟩ := hb.len
  exact ⟨g, 0, ao1, ac1, bo1, bc1, rfl, by rw [Nat.zero_add]; exact hcell _ _ k1, by rw [Nat.zero_add]; exact hcell _ _ k2, by rw [Nat.zero_add, ← e1]; exact hcell _ _ k3, by rw [Nat.zero_add, ← e2]; exact hcell _ _ k4, by rw [← e1]; exact ha, by rw [← e2]; exact hb⟩
/-- Four rows that grow side by side: blocks, attributes of two, warnings; beside them blocks that stay. -/
structure R4 (K D : Nat → Prop) (w : World) (B : Nat) (vl : Value) (bs : List (BlkL × Value × Value)) (vn : Value) (xn : List ((ByteArray × List NodeL) × Value)) (vt : Value) (xt : List ((ByteArray × List NodeL) × Value)) (vq : Value) (xq : List (Int × ByteArray)) : Prop where
  l : w.ownsRow B 28 4 vl bs.length (bCells bs)
  n : w.ownsRow B 38 2 vn xn.length (aCells xn)
  t : w.ownsRow B 38 2 vt xt.length (aCells xt)
  q : w.ownsRow B 40 2 vq xq.length (warnCells xq)
  d : ∀ k, vn.ownBlock = some k → vt.ownBlock ≠ some k
  k : ∀ k, (K k ∨ D k) → B ≤ k ∧ k < w.heap.size ∧ vl.ownBlock ≠ some k ∧ vn.ownBlock ≠ some k ∧ vt.ownBlock ≠ some k ∧ vq.ownBlock ≠ some k
  dk : ∀ k, D k → ¬ K k
  cb : CB K w bs
  cn : CA K w xn
  ct : CA K w xt
section
variable {K D : Nat → Prop} {w w' : World} {B : Nat} {vl : Value} {bs : List (BlkL × Value × Value)} {vn : Value} {xn : List ((ByteArray × List NodeL) × Value)} {vt : Value} {xt : List ((ByteArray × List NodeL) × Value)} {vq : Value} {xq : List (Int × ByteArray)}
/-- New blocks come; some of them stay from now on. -/
theorem R4.ext2 (h : R4 K D w B vl bs vn xn vt xt vq xq) (hb : Below w.heap.size w w') (hB : B ≤ w.heap.size) (X Y : Nat → Prop) (hX : ∀ k, X k → w.heap.size ≤ k ∧ k < w'.heap.size) (hY : ∀ k, Y k → w.heap.size ≤ k ∧ k < w'.heap.size) (hXY : ∀ k, Y k → ¬ X k) : R4 (fun k => K k ∨ X k) (fun k => D k ∨ Y k) w' B vl bs vn xn vt xt vq xq := by
  have hk : ∀ k, K k → w'.heap[k]? = w.heap[k]? := fun k hk => hb.block k (h.k k (.inl hk)).2.1
  have ne : ∀ {k e z n : Nat} {v : Value} {xs : List Value}, w.heap.size ≤ k → w.ownsRow B e z v n xs → v.ownBlock ≠ some k := fun a ho e => by have := (World.ownsRow.lt ho _ e).2; omega
  have old : ∀ k, (K k ∨ D k) → B ≤ k ∧ k < w'.heap.size ∧ vl.ownBlock ≠ some k ∧ vn.ownBlock ≠ some k ∧ vt.ownBlock ≠ some k ∧ vq.ownBlock ≠ some k := fun k hk => by
    obtain ⟨a, b, c⟩ := h.k k hk
    exact ⟨a, Nat.lt_of_lt_of_le b hb.size, c⟩
  have new : ∀ k, w.heap.size ≤ k → k < w'.heap.size → B ≤ k ∧ k < w'.heap.size ∧ vl.ownBlock ≠ some k ∧ vn.ownBlock ≠ some k ∧ vt.ownBlock ≠ some k ∧ vq.ownBlock ≠ some k := fun k a b => ⟨by omega, b, ne a h.l, ne a h.n, ne a h.t, ne a h.q⟩
  refine ⟨own_below h.l hb, own_below h.n hb, own_below h.t hb, own_below h.q hb, h.d, fun k hk => ?_, fun k hd hk => ?_, h.cb.keep (fun _ => .inl) hk, h.cn.keep (fun _ => .inl) hk, h.ct.keep (fun _ => .inl) hk⟩
  · rcases hk with (hk | hk) | (hk | hk)
    · exact old k (.inl hk)
    · exact new k (hX k hk).1 (hX k hk).2
    · exact old k (.inr hk)
    · exact new k (hY k hk).1 (hY k hk).2
  · rcases hd with hd | hd <;> rcases hk with hk | hk
    · exact h.dk k hd hk
    · have := (h.k k (.inr hd)).2.1
      have := (hX k hk).1
      omega
    · have := (h.k k (.inl hk)).2.1
      have := (hY k hd).1
      omega
    · exact hXY k hd hk
theorem R4.ext (h : R4 K D w B vl bs vn xn vt xt vq xq) (hb : Below w.heap.size w w') (hB : B ≤ w.heap.size) (X : Nat → Prop) (hX : ∀ k, X k → w.heap.size ≤ k ∧ k < w'.heap.size) : R4 (fun k => K k ∨ X k) D w' B vl bs vn xn vt xt vq xq := by
  have h2 := h.ext2 hb hB X (fun _ => False) hX (fun k hk => hk.elim) (fun k hk => hk.elim)
  exact ⟨h2.l, h2.n, h2.t, h2.q, h2.d, fun k hk => h2.k k (hk.elim .inl fun h => .inr (.inl h)), fun k hd => h2.dk k (.inl hd), h2.cb, h2.cn, h2.ct⟩
theorem R4.growL (h : R4 K D w B vl bs vn xn vt xt vq xq) {p : BlkL × Value × Value} (hp : Cont K w fun w' => AttrsRd w' p.2.1 p.1.attrs ∧ BlksRd 1 w' p.2.2 p.1.blocks) {g cap : Nat} (hg : w.grownBy w' vl.ownBlock) (hv : vl.ownBlock = some g ∨ g = w.heap.size)
    (ho : w'.ownsRow B 28 4 (.slice (some ⟨g, 0, none⟩) (bs.length + 1) cap) (bs.length + 1) (bCells bs ++ bCells [p])) : R4 K D w' B (.slice (some ⟨g, 0, none⟩) (bs.length + 1) cap) (bs ++ [p]) vn xn vt xt vq xq := by
  have st : ∀ k, k < w.heap.size → vl.ownBlock ≠ some k → w'.heap[k]? = w.heap[k]? := fun k h1 h2 => hg.block k h1 (fun e => h2 e.symm)
  have hk : ∀ k, K k → w'.heap[k]? = w.heap[k]? := fun k hk => st k (h.k k (.inl hk)).2.1 (h.k k (.inl hk)).2.2.1
  refine ⟨by rw [List.length_append]; unfold bCells at ho ⊢; rw [List.flatMap_append]; exact ho, own_stay h.n fun k e => st k (World.ownsRow.lt h.n k e).2 (own_ne h.n h.l (by decide) k e), own_stay h.t fun k e => st k (World.ownsRow.lt h.t k e).2 (own_ne h.t h.l (by decide) k e),
    own_stay h.q fun k e => st k (World.ownsRow.lt h.q k e).2 (own_ne h.q h.l (by decide) k e), h.d, fun k hk' => ?_, h.dk, (h.cb.snoc hp).keep (fun _ => id) hk, h.cn.keep (fun _ => id) hk, h.ct.keep (fun _ => id) hk⟩
  obtain ⟨a, b, c, d, e, f⟩ := h.k k hk'
  refine ⟨a, Nat.lt_of_lt_of_le b hg.size, fun e1 => ?_, d, e, f⟩
  simp only [Value.ownBlock, Option.some.injEq] at e1
  subst e1
  rcases hv with hv | hv
  · exact c hv
  · omega
theorem R4.growLs (h : R4 K D w B vl bs vn xn vt xt vq xq) {ps : List (BlkL × Value × Value)} (hp : CB K w ps) {g cap : Nat} (hg : w.grownBy w' vl.ownBlock) (hv : vl.ownBlock = some g ∨ g = w.heap.size)
    (ho : w'.ownsRow B 28 4 (.slice (some ⟨g, 0, none⟩) (bs.length + ps.length) cap) (bs.length + ps.length) (bCells bs ++ bCells ps)) : R4 K D w' B (.slice (some ⟨g, 0, none⟩) (bs.length + ps.length) cap) (bs ++ ps) vn xn vt xt vq xq := by
  have st : ∀ k, k < w.heap.size → vl.ownBlock ≠ some k → w'.heap[k]? = w.heap[k]? := fun k h1 h2 => hg.block k h1 (fun e => h2 e.symm)
  have hk : ∀ k, K k → w'.heap[k]? = w.heap[k]? := fun k hk => st k (h.k k (.inl hk)).2.1 (h.k k (.inl hk)).2.2.1
  refine ⟨by rw [List.length_append]; unfold bCells at ho ⊢; rw [List.flatMap_append]; exact ho, own_stay h.n fun k e => st k (World.ownsRow.lt h.n k e).2 (own_ne h.n h.l (by decide) k e), own_stay h.t fun k e => st k (World.ownsRow.lt h.t k e).2 (own_ne h.t h.l (by decide) k e),
    own_stay h.q fun k e => st k (World.ownsRow.lt h.q k e).2 (own_ne h.q h.l (by decide) k e), h.d, fun k hk' => ?_, h.dk, (h.cb.app hp).keep (fun _ => id) hk, h.cn.keep (fun _ => id) hk, h.ct.keep (fun _ => id) hk⟩
  obtain ⟨a, b, c, d, e, f⟩ := h.k k hk'
  refine ⟨a, Nat.lt_of_lt_of_le b hg.size, fun e1 => ?_, d, e, f⟩
  simp only [Value.ownBlock, Option.some.injEq] at e1
  subst e1
  rcases hv with hv | hv
  · exact c hv
  · omega
theorem R4.growN (h : R4 K D w B vl bs vn xn vt xt vq xq) {p : (ByteArray × List NodeL) × Value} (hp : Cont K w fun w' => NodesRd w' p.2 p.1.2) {g cap : Nat} (hg : w.grownBy w' vn.ownBlock) (hv : vn.ownBlock = some g ∨ g = w.heap.size)
    (ho : w'.ownsRow B 38 2 (.slice (some ⟨g, 0, none⟩) (xn.length + 1) cap) (xn.length + 1) (aCells xn ++ aCells [p])) : R4 K D w' B vl bs (.slice (some ⟨g, 0, none⟩) (xn.length + 1) cap) (xn ++ [p]) vt xt vq xq := by
  have st : ∀ k, k < w.heap.size → vn.ownBlock ≠ some k → w'.heap[k]? = w.heap[k]? := fun k h1 h2 => hg.block k h1 (fun e => h2 e.symm)
  have fr : ∀ {e z n : Nat} {v : Value} {xs : List Value}, w.ownsRow B e z v n xs → v.ownBlock ≠ some w.heap.size := fun ho e => by have := (World.ownsRow.lt ho _ e).2; omega
  have hk : ∀ k, K k → w'.heap[k]? = w.heap[k]? := fun k hk => st k (h.k k (.inl hk)).2.1 (h.k k (.inl hk)).2.2.2.1
  refine ⟨own_stay h.l fun k e => st k (World.ownsRow.lt h.l k e).2 (own_ne h.l h.n (by decide) k e), by rw [List.length_append]; unfold aCells at ho ⊢; rw [List.flatMap_append]; exact ho, own_stay h.t fun k e => st k (World.ownsRow.lt h.t k e).2 (fun e2 => h.d k e2 e),
    own_stay h.q fun k e => st k (World.ownsRow.lt h.q k e).2 (own_ne h.q h.n (by decide) k e), fun k e e2 => ?_, fun k hk' => ?_, h.dk, h.cb.keep (fun _ => id) hk, (h.cn.snoc hp).keep (fun _ => id) hk, h.ct.keep (fun _ => id) hk⟩
  · simp only [Value.ownBlock, Option.some.injEq] at e
    subst e
    rcases hv with hv | hv
    · exact h.d _ hv e2
    · rw [hv] at e2; exact fr h.t e2
  · obtain ⟨a, b, c, d, e, f⟩ := h.k k hk'
    refine ⟨a, Nat.lt_of_lt_of_le b hg.size, c, fun e1 => ?_, e, f⟩
    simp only [Value.ownBlock, Option.some.injEq] at e1
    subst e1
    rcases hv with hv | hv
    · exact d hv
    · omega
theorem R4.growT (h : R4 K D w B vl bs vn xn vt xt vq xq) {p : (ByteArray × List NodeL) × Value} (hp : Cont K w fun w' => NodesRd w' p.2 p.1.2) {g cap : Nat} (hg : w.grownBy w' vt.ownBlock) (hv : vt.ownBlock = some g ∨ g = w.heap.size)
    (ho : w'.ownsRow B 38 2 (.slice (some ⟨g, 0, none⟩) (xt.length + 1) cap) (xt.length + 1) (aCells xt ++ aCells [p])) : R4 K D w' B vl bs vn xn (.slice (some ⟨g, 0, none⟩) (xt.length + 1) cap) (xt ++ [p]) vq xq := by
  have st : ∀ k, k < w.heap.size → vt.ownBlock ≠ some k → w'.heap[k]? = w.heap[k]? := fun k h1 h2 => hg.block k h1 (fun e => h2 e.symm)
  have fr : ∀ {e z n : Nat} {v : Value} {xs : List Value}, w.ownsRow B e z v n xs → v.ownBlock ≠ some w.heap.size := fun ho e => by have := (World.ownsRow.lt ho _ e).2; omega
  have hk : ∀ k, K k → w'.heap[k]? = w.heap[k]? := fun k hk => st k (h.k k (.inl hk)).2.1 (h.k k (.inl hk)).2.2.2.2.1
  refine ⟨own_stay h.l fun k e => st k (World.ownsRow.lt h.l k e).2 (own_ne h.l h.t (by decide) k e), own_stay h.n fun k e => st k (World.ownsRow.lt h.n k e).2 (h.d k e), by rw [List.length_append]; unfold aCells at ho ⊢; rw [List.flatMap_append]; exact ho,
    own_stay h.q fun k e => st k (World.ownsRow.lt h.q k e).2 (own_ne h.q h.t (by decide) k e), fun k e e2 => ?_, fun k hk' => ?_, h.dk, h.cb.keep (fun _ => id) hk, h.cn.keep (fun _ => id) hk, (h.ct.snoc hp).keep (fun _ => id) hk⟩
  · simp only [Value.ownBlock, Option.some.injEq] at e2
    subst e2
    rcases hv with hv | hv
    · exact h.d _ e hv
    · rw [hv] at e; exact fr h.n e
  · obtain ⟨a, b, c, d, e, f⟩ := h.k k hk'
    refine ⟨a, Nat.lt_of_lt_of_le b hg.size, c, d, fun e1 => ?_, f⟩
    simp only [Value.ownBlock, Option.some.injEq] at e1
    subst e1
    rcases hv with hv | hv
    · exact e hv
    · omega
theorem R4.growQ (h : R4 K D w B vl bs vn xn vt xt vq xq) {p : Int × ByteArray} {g cap : Nat} (hg : w.grownBy w' vq.ownBlock) (hv : vq.ownBlock = some g ∨ g = w.heap.size)
    (ho : w'.ownsRow B 40 2 (.slice (some ⟨g, 0, none⟩) (xq.length + 1) cap) (xq.length + 1) (warnCells xq ++ warnCells [p])) : R4 K D w' B vl bs vn xn vt xt (.slice (some ⟨g, 0, none⟩) (xq.length + 1) cap) (xq ++ [p]) := by
  have st : ∀ k, k < w.heap.size → vq.ownBlock ≠ some k → w'.heap[k]? = w.heap[k]? := fun k h1 h2 => hg.block k h1 (fun e => h2 e.symm)
  have fr : ∀ {e z n : Nat} {v : Value} {xs : List Value}, w.ownsRow B e z v n xs → v.ownBlock ≠ some w.heap.size := fun ho e => by have := (World.ownsRow.lt ho _ e).2; omega
  have hk : ∀ k, K k → w'.heap[k]? = w.heap[k]? := fun k hk => st k (h.k k (.inl hk)).2.1 (h.k k (.inl hk)).2.2.2.2.2
  refine ⟨own_stay h.l fun k e => st k (World.ownsRow.lt h.l k e).2 (own_ne h.l h.q (by decide) k e), own_stay h.n fun k e => st k (World.ownsRow.lt h.n k e).2 (own_ne h.n h.q (by decide) k e), own_stay h.t fun k e => st k (World.ownsRow.lt h.t k e).2 (own_ne h.t h.q (by decide) k e),
    by rw [List.length_append, warn_app]; exact ho, h.d, fun k hk' => ?_, h.dk, h.cb.keep (fun _ => id) hk, h.cn.keep (fun _ => id) hk, h.ct.keep (fun _ => id) hk⟩
  obtain ⟨a, b, c, d, e, f⟩ := h.k k hk'
  refine ⟨a, Nat.lt_of_lt_of_le b hg.size, c, d, e, fun e1 => ?_⟩
  simp only [Value.ownBlock, Option.some.injEq] at e1
  subst e1
  rcases hv with hv | hv
  · exact f hv
  · omega
/-- A store into a block below all rows. -/
theorem R4.set (h : R4 K D w B vl bs vn xn vt xt vq xq) {a : Addr} (ha : a.block < B) (u : Value) : R4 K D (w.setCell a u) B vl bs vn xn vt xt vq xq := by
  have hs : ∀ k, B ≤ k → (w.setCell a u).heap[k]? = w.heap[k]? := fun k hk => Below.heap_setCell w a u k (by omega)
  have hk : ∀ k, K k → (w.setCell a u).heap[k]? = w.heap[k]? := fun k hk => hs k (h.k k (.inl hk)).1
  refine ⟨own_stay h.l fun k e => hs k (World.ownsRow.lt h.l k e).1, own_stay h.n fun k e => hs k (World.ownsRow.lt h.n k e).1, own_stay h.t fun k e => hs k (World.ownsRow.lt h.t k e).1, own_stay h.q fun k e => hs k (World.ownsRow.lt h.q k e).1, h.d, fun k hk' => ?_, h.dk, h.cb.keep (fun _ => id) hk, h.cn.keep (fun _ => id) hk, h.ct.keep (fun _ => id) hk⟩
  obtain ⟨a', b, c⟩ := h.k k hk'
  exact ⟨a', by rw [World.size_setCell]; exact b, c⟩
theorem R4.freeL (h : R4 K D w B vl bs vn xn vt xt vq xq) {k : Nat} (hd : D k) (hg : w.grownBy w' vl.ownBlock) : w'.heap[k]? = w.heap[k]? := hg.block k (h.k k (.inr hd)).2.1 fun e => (h.k k (.inr hd)).2.2.1 e.symm
theorem R4.freeN (h : R4 K D w B vl bs vn xn vt xt vq xq) {k : Nat} (hd : D k) (hg : w.grownBy w' vn.ownBlock) : w'.heap[k]? = w.heap[k]? := hg.block k (h.k k (.inr hd)).2.1 fun e => (h.k k (.inr hd)).2.2.2.1 e.symm
theorem R4.freeT (h : R4 K D w B vl bs vn xn vt xt vq xq) {k : Nat} (hd : D k) (hg : w.grownBy w' vt.ownBlock) : w'.heap[k]? = w.heap[k]? := hg.block k (h.k k (.inr hd)).2.1 fun e => (h.k k (.inr hd)).2.2.2.2.1 e.symm
theorem R4.freeQ (h : R4 K D w B vl bs vn xn vt xt vq xq) {k : Nat} (hd : D k) (hg : w.grownBy w' vq.ownBlock) : w'.heap[k]? = w.heap[k]? := hg.block k (h.k k (.inr hd)).2.1 fun e => (h.k k (.inr hd)).2.2.2.2.2 e.symm
/-- A store into a block that is kept free of all rows. -/
theorem R4.setD (h : R4 K D w B vl bs vn xn vt xt vq xq) {a : Addr} (ha : D a.block) (u : Value) : R4 K D (w.setCell a u) B vl bs vn xn vt xt vq xq := by
  obtain ⟨-, -, d1, d2, d3, d4⟩ := h.k _ (.inr ha)
  have hs : ∀ k, k ≠ a.block → (w.setCell a u).heap[k]? = w.heap[k]? := fun k hk => Below.heap_setCell w a u k hk
  have hk : ∀ k, K k → (w.setCell a u).heap[k]? = w.heap[k]? := fun k hk => hs k fun e => h.dk _ ha (e ▸ hk)
  refine ⟨own_stay h.l fun k e => hs k fun x => d1 (x ▸ e), own_stay h.n fun k e => hs k fun x => d2 (x ▸ e), own_stay h.t fun k e => hs k fun x => d3 (x ▸ e), own_stay h.q fun k e => hs k fun x => d4 (x ▸ e), h.d, fun k hk' => ?_, h.dk, h.cb.keep (fun _ => id) hk, h.cn.keep (fun _ => id) hk, h.ct.keep (fun _ => id) hk⟩
  obtain ⟨a', b, c⟩ := h.k k hk'
  exact ⟨a', by rw [World.size_setCell]; exact b, c⟩
theorem R4.nil (w : World) (B : Nat) : R4 (fun _ => False) (fun _ => False) w B (.slice none 0 0) [] (.slice none 0 0) [] (.slice none 0 0) [] (.slice none 0 0) [] :=
  ⟨World.ownsRow_nil _ _ _ _, World.ownsRow_nil _ _ _ _, World.ownsRow_nil _ _ _ _, World.ownsRow_nil _ _ _ _, fun k e => (by cases e), fun k h => (h.elim id id).elim, fun k h => h.elim, fun p hp => (by cases hp), fun p hp => (by cases hp), fun p hp => (by cases hp)⟩
/-- Two rows of attributes stay from now on. -/
theorem R4.seal (h : R4 K D w B vl bs vn xn vt xt vq xq) : R4 (fun k => K k ∨ vn.ownBlock = some k ∨ vt.ownBlock = some k) (fun _ => False) w B vl bs (.slice none 0 0) [] (.slice none 0 0) [] vq xq ∧
    Cont (fun k => K k ∨ vn.ownBlock = some k ∨ vt.ownBlock = some k) w (fun w' => AttrsRd w' vn (xn.map (·.1))) ∧ Cont (fun k => K k ∨ vn.ownBlock = some k ∨ vt.ownBlock = some k) w (fun w' => AttrsRd w' vt (xt.map (·.1))) := by
  refine ⟨⟨h.l, World.ownsRow_nil _ _ _ _, World.ownsRow_nil _ _ _ _, h.q, fun k e => (by cases e), fun k hk => ?_, fun k e => e.elim, h.cb.keep (fun _ => .inl) (fun _ _ => rfl), fun p hp => (by cases hp), fun p hp => (by cases hp)⟩, fun w' hs => ?_, fun w' hs => ?_⟩
  · rcases hk with (hk | hk | hk) | hk
    · obtain ⟨a, b, c, d, e, f⟩ := h.k k (.inl hk)
      exact ⟨a, b, c, (by simp [Value.ownBlock]), (by simp [Value.ownBlock]), f⟩
    · obtain ⟨a, b⟩ := World.ownsRow.lt h.n k hk
      exact ⟨a, b, own_ne h.n h.l (by decide) k hk, (by simp [Value.ownBlock]), (by simp [Value.ownBlock]), own_ne h.n h.q (by decide) k hk⟩
    · obtain ⟨a, b⟩ := World.ownsRow.lt h.t k hk
      exact ⟨a, b, own_ne h.t h.l (by decide) k hk, (by simp [Value.ownBlock]), (by simp [Value.ownBlock]), own_ne h.t h.q (by decide) k hk⟩
    · exact hk.elim
  · exact attrs_own (own_stay h.n fun k e => hs k (.inr (.inl e))) rfl (h.cn.keep (K' := fun _ => True) (fun _ _ => trivial) fun k hk => hs k (.inl hk))
  · exact attrs_own (own_stay h.t fun k e => hs k (.inr (.inr e))) rfl (h.ct.keep (K' := fun _ => True) (fun _ _ => trivial) fun k hk => hs k (.inl hk))
end
end Go.Proofs.YtlkdicabmikhkaaGreatDoor
