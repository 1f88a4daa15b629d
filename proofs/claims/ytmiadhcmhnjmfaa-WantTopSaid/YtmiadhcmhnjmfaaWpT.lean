/- Package want: a list with its depths, as what is sorted: Len, Less, Swap. -/
import Derived.Test.YtmiadhcmhnjmfaaWpS
import Derived.Test.YtmiadhcmhnjmfaaWpI
namespace Go.Proofs.Ytmiadhcmhnjmfaa
open Go.RowKit
set_option linter.unusedVariables false
set_option linter.unusedSimpArgs false
theorem dLen (a b : Value) (W : World) : (method 195 53 (.agg #[a, b]) "Len").run Try.prog W = .ok (63, a) W := by kernel_rfl
theorem dLess (a b : Value) (W : World) : (method 195 53 (.agg #[a, b]) "Less").run Try.prog W = .ok (65, .agg #[a, b]) W := by kernel_rfl
theorem dSwap (a b : Value) (W : World) : (method 195 53 (.agg #[a, b]) "Swap").run Try.prog W = .ok (66, .agg #[a, b]) W := by kernel_rfl
theorem setCell_far {w : World} {p q : Addr} {v : Value} (h : q ≠ p) : (w.setCell q v).cell? p = w.cell? p := World.cell?_setCell_other w q p v h
theorem setCell_at {w : World} {p : Addr} {v u : Value} (h : w.cell? p = some u) : (w.setCell p v).cell? p = some v := World.cell?_setCell_same w p v h
theorem addr_ne {g h o o' : Nat} (e : g ≠ h ∨ o ≠ o') : (⟨g, o, none⟩ : Addr) ≠ ⟨h, o', none⟩ := by
  intro h1
  simp only [Addr.mk.injEq, and_true] at h1
  rcases e with e | e
  · exact e h1.1
  · exact e h1.2
/-- Five cells written. -/
def set5 (w : World) (g o : Nat) (u : W5) : World := ((((w.setCell ⟨g, o, none⟩ (.string u.name)).setCell ⟨g, o + 1, none⟩ (.string u.parent)).setCell ⟨g, o + 2, none⟩ (.int .i64 u.lim.c)).setCell ⟨g, o + 3, none⟩ (.int .i64 u.lim.m)).setCell ⟨g, o + 4, none⟩ (.int .i64 u.lim.p)
theorem set5_far (w : World) (g o : Nat) (u : W5) {h o' : Nat} (e : h ≠ g ∨ o' < o ∨ o + 5 ≤ o') : (set5 w g o u).cell? ⟨h, o', none⟩ = w.cell? ⟨h, o', none⟩ := by
  have k : ∀ r, r < 5 → (⟨g, o + r, none⟩ : Addr) ≠ ⟨h, o', none⟩ := fun r hr => addr_ne (by
    rcases e with e | e
    · exact .inl (fun h1 => e h1.symm)
    · exact .inr (by omega))
  have k0 : (⟨g, o, none⟩ : Addr) ≠ ⟨h, o', none⟩ := k 0 (by omega)
  unfold set5
  rw [setCell_far (k 4 (by omega)), setCell_far (k 3 (by omega)), setCell_far (k 2 (by omega)), setCell_far (k 1 (by omega)), setCell_far k0]
theorem set5_at {w : World} {g o : Nat} {x : W5} (u : W5) (h : W5At w g o x) : W5At (set5 w g o u) g o u := by
  obtain ⟨h0, h1, h2, h3, h4⟩ := h
  have k : ∀ r r', r ≠ r' → (⟨g, o + r, none⟩ : Addr) ≠ ⟨g, o + r', none⟩ := fun r r' hr => addr_ne (.inr (by omega))
  have z : ∀ r, 0 < r → (⟨g, o + r, none⟩ : Addr) ≠ ⟨g, o, none⟩ := fun r hr => addr_ne (.inr (by omega))
  have y : ∀ r, 0 < r → (⟨g, o, none⟩ : Addr) ≠ ⟨g, o + r, none⟩ := fun r hr => addr_ne (.inr (by omega))
  unfold set5
  refine ⟨?_, ?_, ?_, ?_, ?_⟩
  · rw [setCell_far (z 4 (by omega)), setCell_far (z 3 (by omega)), setCell_far (z 2 (by omega)), setCell_far (z 1 (by omega))]
    exact setCell_at h0
  · rw [setCell_far (k 4 1 (by omega)), setCell_far (k 3 1 (by omega)), setCell_far (k 2 1 (by omega))]
    exact setCell_at ((setCell_far (y 1 (by omega))).trans h1)
  · rw [setCell_far (k 4 2 (by omega)), setCell_far (k 3 2 (by omega))]
    exact setCell_at (((setCell_far (k 1 2 (by omega))).trans (setCell_far (y 2 (by omega)))).trans h2)
  · rw [setCell_far (k 4 3 (by omega))]
    exact setCell_at ((((setCell_far (k 2 3 (by omega))).trans (setCell_far (k 1 3 (by omega)))).trans (setCell_far (y 3 (by omega)))).trans h3)
  · exact setCell_at (((((setCell_far (k 3 4 (by omega))).trans (setCell_far (k 2 4 (by omega)))).trans (setCell_far (k 1 4 (by omega)))).trans (setCell_far (y 4 (by omega)))).trans h4)
theorem set5_frozen (w : World) (g o : Nat) (u : W5) (p : Addr) : (set5 w g o u).frozen? p = w.frozen? p := by unfold set5; simp
theorem set5_block (w : World) (g o : Nat) (u : W5) (k : Nat) (h : k ≠ g) : (set5 w g o u).heap[k]? = w.heap[k]? := by
  unfold set5
  rw [heap_setCell_other _ ⟨g, o + 4, none⟩ k _ h, heap_setCell_other _ ⟨g, o + 3, none⟩ k _ h, heap_setCell_other _ ⟨g, o + 2, none⟩ k _ h, heap_setCell_other _ ⟨g, o + 1, none⟩ k _ h, heap_setCell_other _ ⟨g, o, none⟩ k _ h]
theorem set5_size (w : World) (g o : Nat) (u : W5) : (set5 w g o u).heap.size = w.heap.size := by unfold set5; simp
/-- All blocks but g and h stay. -/
structure KeepGH (g h : Nat) (w w' : World) : Prop where
  os : w'.os = w.os
  tape : w'.tape = w.tape
  output : w'.output = w.output
  size : w.heap.size ≤ w'.heap.size
  block : ∀ k, k < w.heap.size → k ≠ g → k ≠ h → w'.heap[k]? = w.heap[k]?
  kind : ∀ (k : Nat) (cur : Array Value) (t : TypeId), w.heap[k]? = some (.cells cur t (0, 0)) → ∃ cur' : Array Value, w'.heap[k]? = some (.cells cur' t (0, 0)) ∧ cur'.size = cur.size
theorem KeepGH.refl (g h : Nat) (w : World) : KeepGH g h w w := ⟨rfl, rfl, rfl, Nat.le_refl _, fun _ _ _ _ => rfl, fun k cur t e => ⟨cur, e, rfl⟩⟩
theorem KeepGH.trans {g h : Nat} {a b c : World} (x : KeepGH g h a b) (y : KeepGH g h b c) : KeepGH g h a c :=
  ⟨y.os.trans x.os, y.tape.trans x.tape, y.output.trans x.output, Nat.le_trans x.size y.size, fun k hk h1 h2 => (y.block k (Nat.lt_of_lt_of_le hk x.size) h1 h2).trans (x.block k hk h1 h2), fun k cur t e => by
    obtain ⟨c1, e1, s1⟩ := x.kind k cur t e
    obtain ⟨c2, e2, s2⟩ := y.kind k c1 t e1
    exact ⟨c2, e2, s2.trans s1⟩⟩
theorem KeepGH.of {g h : Nat} {a b : World} (x : Below a.heap.size a b) : KeepGH g h a b := ⟨x.os, x.tape, x.output, x.size, fun k hk _ _ => x.block k hk, fun k cur t e => ⟨cur, (x.block k (World.lt_of_heap e)).trans e, rfl⟩⟩
theorem setCell_kind (w : World) (g o : Nat) (v : Value) : ∀ (k : Nat) (cur : Array Value) (t : TypeId), w.heap[k]? = some (.cells cur t (0, 0)) → ∃ cur' : Array Value, (w.setCell ⟨g, o, none⟩ v).heap[k]? = some (.cells cur' t (0, 0)) ∧ cur'.size = cur.size := fun k cur t e => by
  by_cases hk : k = g
  · subst hk
    exact ⟨_, Go.heap_setCell_same w k o cur t v e, by simp⟩
  · exact ⟨cur, (heap_setCell_other w ⟨g, o, none⟩ k v hk).trans e, rfl⟩
theorem KeepGH.below {g h B : Nat} {w a b : World} (x : KeepGH g h a b) (y : Below B w a) (hB : B ≤ w.heap.size) (hg : B ≤ g) (hh : B ≤ h) : Below B w b :=
  ⟨x.os.trans y.os, x.tape.trans y.tape, x.output.trans y.output, Nat.le_trans y.size x.size, fun k hk => (x.block k (Nat.lt_of_lt_of_le hk (Nat.le_trans hB y.size)) (by omega) (by omega)).trans (y.block k hk)⟩
theorem KeepGH.cell (g h : Nat) (w : World) (o : Nat) (v : Value) : KeepGH g h w (w.setCell ⟨g, o, none⟩ v) := ⟨rfl, rfl, rfl, by simp, fun k _ hk _ => heap_setCell_other w ⟨g, o, none⟩ k v hk, setCell_kind w g o v⟩
theorem KeepGH.cellH (g h : Nat) (w : World) (o : Nat) (v : Value) : KeepGH g h w (w.setCell ⟨h, o, none⟩ v) := ⟨rfl, rfl, rfl, by simp, fun k _ _ hk => heap_setCell_other w ⟨h, o, none⟩ k v hk, setCell_kind w h o v⟩
theorem KeepGH.five (g h : Nat) (w : World) (o : Nat) (u : W5) : KeepGH g h w (set5 w g o u) := by
  unfold set5
  exact ((((KeepGH.cell g h _ _ _).trans (KeepGH.cell g h _ _ _)).trans (KeepGH.cell g h _ _ _)).trans (KeepGH.cell g h _ _ _)).trans (KeepGH.cell g h _ _ _)
theorem KeepGH.drawn (g h : Nat) (w : World) (q : Nat) : KeepGH g h w (w.drewN q) := ⟨rfl, rfl, rfl, Nat.le_refl _, fun _ _ _ _ => rfl, fun k cur t e => ⟨cur, e, rfl⟩⟩
theorem w5_drewN {w : World} {g o : Nat} {u : W5} (h : W5At w g o u) (q : Nat) : W5At (w.drewN q) g o u := h
theorem cell_drewN (w : World) (p : Addr) (q : Nat) : (w.drewN q).cell? p = w.cell? p := rfl
theorem frozen_drewN (w : World) (p : Addr) (q : Nat) : (w.drewN q).frozen? p = w.frozen? p := rfl
/-- The list in block g, how deep each stands in block h. -/
structure SrtAt (w : World) (g h n : Nat) (f : Nat → W5 × Nat) : Prop where
  w5 : ∀ k, k < n → W5At w g (k * 5) (f k).1
  dp : ∀ k, k < n → w.cell? ⟨h, k, none⟩ = some (.int .i64 ((f k).2 : Int))
  fg : ∀ o, w.frozen? ⟨g, o, none⟩ = false
  fh : ∀ o, w.frozen? ⟨h, o, none⟩ = false
  ne : g ≠ h
  lg : g < w.heap.size
  lh : h < w.heap.size
theorem SrtAt.below {w w' : World} {g h n : Nat} {f : Nat → W5 × Nat} (s : SrtAt w g h n f) (hb : Below w.heap.size w w') : SrtAt w' g h n f :=
  ⟨fun k hk => (s.w5 k hk).below hb, fun k hk => hold hb (s.dp k hk), fun o => (hb.frozen (p := ⟨g, o, none⟩) s.lg).trans (s.fg o), fun o => (hb.frozen (p := ⟨h, o, none⟩) s.lh).trans (s.fh o), s.ne, Nat.lt_of_lt_of_le s.lg hb.size, Nat.lt_of_lt_of_le s.lh hb.size⟩
theorem SrtAt.congr {w : World} {g h n : Nat} {f f' : Nat → W5 × Nat} (s : SrtAt w g h n f) (e : ∀ k, k < n → f' k = f k) : SrtAt w g h n f' :=
  ⟨fun k hk => by rw [e k hk]; exact s.w5 k hk, fun k hk => by rw [e k hk]; exact s.dp k hk, s.fg, s.fh, s.ne, s.lg, s.lh⟩
/-- The list's nodes exchanged, not their depths. -/
theorem SrtAt.half {w : World} {g h n : Nat} {f : Nat → W5 × Nat} (s : SrtAt w g h n f) {i j : Nat} (hi : i < n) (hj : j < n) (hij : i ≠ j) :
    (∀ k, k < n → W5At (set5 (set5 w g (i * 5) (f j).1) g (j * 5) (f i).1) g (k * 5) (swF f i j k).1) ∧ ∀ h' o, h' ≠ g → (set5 (set5 w g (i * 5) (f j).1) g (j * 5) (f i).1).cell? ⟨h', o, none⟩ = w.cell? ⟨h', o, none⟩ := by
  refine ⟨fun k hk => ?_, fun h' o e => by rw [set5_far _ _ _ _ (.inl e), set5_far _ _ _ _ (.inl e)]⟩
  have far : ∀ (W : World) (o : Nat) (u x : W5), (o + 5 ≤ k * 5 ∨ k * 5 + 5 ≤ o) → W5At W g (k * 5) x → W5At (set5 W g o u) g (k * 5) x := fun W o u x e hx => by
    obtain ⟨h0, h1, h2, h3, h4⟩ := hx
    exact ⟨(set5_far _ _ _ _ (.inr (by omega))).trans h0, (set5_far _ _ _ _ (.inr (by omega))).trans h1, (set5_far _ _ _ _ (.inr (by omega))).trans h2, (set5_far _ _ _ _ (.inr (by omega))).trans h3, (set5_far _ _ _ _ (.inr (by omega))).trans h4⟩
  unfold swF
  by_cases c1 : k = i
  · subst c1
    rw [if_pos rfl]
    exact far _ _ _ _ (by omega) (set5_at _ (s.w5 k hk))
  · rw [if_neg c1]
    by_cases c2 : k = j
    · subst c2
      rw [if_pos rfl]
      exact set5_at _ (far _ _ _ _ (by omega) (s.w5 k hk))
    · rw [if_neg c2]
      exact far _ _ _ _ (by omega) (far _ _ _ _ (by omega) (s.w5 k hk))
/-- The depths too. -/
theorem SrtAt.swap {w w1 : World} {g h n : Nat} {f : Nat → W5 × Nat} (s : SrtAt w g h n f) {i j : Nat} (hi : i < n) (hj : j < n) (hij : i ≠ j)
    (a1 : ∀ k, k < n → W5At w1 g (k * 5) (swF f i j k).1) (a2 : ∀ k, k < n → w1.cell? ⟨h, k, none⟩ = some (.int .i64 ((f k).2 : Int))) (fg : ∀ o, w1.frozen? ⟨g, o, none⟩ = false) (fh : ∀ o, w1.frozen? ⟨h, o, none⟩ = false) (lg : g < w1.heap.size) (lh : h < w1.heap.size) :
    SrtAt ((w1.setCell ⟨h, i, none⟩ (.int .i64 ((f j).2 : Int))).setCell ⟨h, j, none⟩ (.int .i64 ((f i).2 : Int))) g h n (swF f i j) := by
  have far : ∀ o, ((w1.setCell ⟨h, i, none⟩ (.int .i64 ((f j).2 : Int))).setCell ⟨h, j, none⟩ (.int .i64 ((f i).2 : Int))).cell? ⟨g, o, none⟩ = w1.cell? ⟨g, o, none⟩ := fun o => by
    rw [setCell_far (addr_ne (.inl (fun e => s.ne e.symm))), setCell_far (addr_ne (.inl (fun e => s.ne e.symm)))]
  refine ⟨fun k hk => ?_, fun k hk => ?_, fun o => by simpa using fg o, fun o => by simpa using fh o, s.ne, by simpa using lg, by simpa using lh⟩
  · obtain ⟨h0, h1, h2, h3, h4⟩ := a1 k hk
    exact ⟨(far _).trans h0, (far _).trans h1, (far _).trans h2, (far _).trans h3, (far _).trans h4⟩
  · unfold swF
    by_cases c1 : k = i
    · subst c1
      rw [if_pos rfl, setCell_far (addr_ne (.inr (fun e => hij e.symm)))]
      exact setCell_at (a2 k hk)
    · rw [if_neg c1]
      by_cases c2 : k = j
      · subst c2
        rw [if_pos rfl]
        exact setCell_at ((setCell_far (addr_ne (.inr (fun e => c1 e.symm)))).trans (a2 k hk))
      · rw [if_neg c2, setCell_far (addr_ne (.inr (fun e => c2 e.symm))), setCell_far (addr_ne (.inr (fun e => c1 e.symm)))]
        exact a2 k hk
section
variable (w : World)
set_option maxHeartbeats 4000000 in
set_option maxRecDepth 20000 in
theorem pswapL (g h n c : Nat) (f : Nat → W5 × Nat) (s : SrtAt w g h n f) (hn : n ≤ 1000) (i j : Nat) (hi : i < n) (hj : j < n) (hij : i ≠ j) :
    Calls Try.prog 64 #[.slice (some ⟨g, 0, none⟩) n c, .int .i64 i, .int .i64 j] w fun e w' => e = .returned (.tuple #[]) ∧ ∃ k, w' = (set5 (set5 w g (i * 5) (f j).1) g (j * 5) (f i).1).drewN k := by
  obtain ⟨i0, i1, i2, i3, i4⟩ := s.w5 i hi
  obtain ⟨j0, j1, j2, j3, j4⟩ := s.w5 j hj
  have q0 : (0 : Int) ≤ (i : Int) := by omega
  have q1 : (i : Int) < (n : Int) := by omega
  have q2 : (0 : Int) ≤ (j : Int) := by omega
  have q3 : (j : Int) < (n : Int) := by omega
  have f0 := s.fg (i * 5)
  have f1 := s.fg (i * 5 + 1)
  have f2 := s.fg (i * 5 + 2)
  have f3 := s.fg (i * 5 + 3)
  have f4 := s.fg (i * 5 + 4)
  have e0 := s.fg (j * 5)
  have e1 := s.fg (j * 5 + 1)
  have e2 := s.fg (j * 5 + 2)
  have e3 := s.fg (j * 5 + 3)
  have e4 := s.fg (j * 5 + 4)
  have b1 : (w.setCell ⟨g, i * 5, none⟩ (.string (f j).1.name)).cell? ⟨g, i * 5 + 1, none⟩ = some (.string (f i).1.parent) := by
    simp only [setCell_far (addr_ne (.inr (show i * 5 ≠ i * 5 + 1 by omega)))]; exact i1
  have b2 : ((w.setCell ⟨g, i * 5, none⟩ (.string (f j).1.name)).setCell ⟨g, i * 5 + 1, none⟩ (.string (f j).1.parent)).cell? ⟨g, i * 5 + 2, none⟩ = some (.int .i64 (f i).1.lim.c) := by
    simp only [setCell_far (addr_ne (.inr (show i * 5 ≠ i * 5 + 2 by omega))), setCell_far (addr_ne (.inr (show i * 5 + 1 ≠ i * 5 + 2 by omega)))]; exact i2
  have b3 : (((w.setCell ⟨g, i * 5, none⟩ (.string (f j).1.name)).setCell ⟨g, i * 5 + 1, none⟩ (.string (f j).1.parent)).setCell ⟨g, i * 5 + 2, none⟩ (.int .i64 (f j).1.lim.c)).cell? ⟨g, i * 5 + 3, none⟩ = some (.int .i64 (f i).1.lim.m) := by
    simp only [setCell_far (addr_ne (.inr (show i * 5 ≠ i * 5 + 3 by omega))), setCell_far (addr_ne (.inr (show i * 5 + 1 ≠ i * 5 + 3 by omega))), setCell_far (addr_ne (.inr (show i * 5 + 2 ≠ i * 5 + 3 by omega)))]; exact i3
  have b4 : ((((w.setCell ⟨g, i * 5, none⟩ (.string (f j).1.name)).setCell ⟨g, i * 5 + 1, none⟩ (.string (f j).1.parent)).setCell ⟨g, i * 5 + 2, none⟩ (.int .i64 (f j).1.lim.c)).setCell ⟨g, i * 5 + 3, none⟩ (.int .i64 (f j).1.lim.m)).cell? ⟨g, i * 5 + 4, none⟩ = some (.int .i64 (f i).1.lim.p) := by
    simp only [setCell_far (addr_ne (.inr (show i * 5 ≠ i * 5 + 4 by omega))), setCell_far (addr_ne (.inr (show i * 5 + 1 ≠ i * 5 + 4 by omega))), setCell_far (addr_ne (.inr (show i * 5 + 2 ≠ i * 5 + 4 by omega))), setCell_far (addr_ne (.inr (show i * 5 + 3 ≠ i * 5 + 4 by omega)))]; exact i4
  have d0 : (((((w.setCell ⟨g, i * 5, none⟩ (.string (f j).1.name)).setCell ⟨g, i * 5 + 1, none⟩ (.string (f j).1.parent)).setCell ⟨g, i * 5 + 2, none⟩ (.int .i64 (f j).1.lim.c)).setCell ⟨g, i * 5 + 3, none⟩ (.int .i64 (f j).1.lim.m)).setCell ⟨g, i * 5 + 4, none⟩ (.int .i64 (f j).1.lim.p)).cell? ⟨g, j * 5, none⟩ = some (.string (f j).1.name) := by
    simp only [setCell_far (addr_ne (.inr (show i * 5 ≠ j * 5 by omega))), setCell_far (addr_ne (.inr (show i * 5 + 1 ≠ j * 5 by omega))), setCell_far (addr_ne (.inr (show i * 5 + 2 ≠ j * 5 by omega))), setCell_far (addr_ne (.inr (show i * 5 + 3 ≠ j * 5 by omega))), setCell_far (addr_ne (.inr (show i * 5 + 4 ≠ j * 5 by omega)))]; exact j0
  have d1 : ((((((w.setCell ⟨g, i * 5, none⟩ (.string (f j).1.name)).setCell ⟨g, i * 5 + 1, none⟩ (.string (f j).1.parent)).setCell ⟨g, i * 5 + 2, none⟩ (.int .i64 (f j).1.lim.c)).setCell ⟨g, i * 5 + 3, none⟩ (.int .i64 (f j).1.lim.m)).setCell ⟨g, i * 5 + 4, none⟩ (.int .i64 (f j).1.lim.p)).setCell ⟨g, j * 5, none⟩ (.string (f i).1.name)).cell? ⟨g, j * 5 + 1, none⟩ = some (.string (f j).1.parent) := by
    simp only [setCell_far (addr_ne (.inr (show i * 5 ≠ j * 5 + 1 by omega))), setCell_far (addr_ne (.inr (show i * 5 + 1 ≠ j * 5 + 1 by omega))), setCell_far (addr_ne (.inr (show i * 5 + 2 ≠ j * 5 + 1 by omega))), setCell_far (addr_ne (.inr (show i * 5 + 3 ≠ j * 5 + 1 by omega))), setCell_far (addr_ne (.inr (show i * 5 + 4 ≠ j * 5 + 1 by omega))), setCell_far (addr_ne (.inr (show j * 5 ≠ j * 5 + 1 by omega)))]; exact j1
  have d2 : (((((((w.setCell ⟨g, i * 5, none⟩ (.string (f j).1.name)).setCell ⟨g, i * 5 + 1, none⟩ (.string (f j).1.parent)).setCell ⟨g, i * 5 + 2, none⟩ (.int .i64 (f j).1.lim.c)).setCell ⟨g, i * 5 + 3, none⟩ (.int .i64 (f j).1.lim.m)).setCell ⟨g, i * 5 + 4, none⟩ (.int .i64 (f j).1.lim.p)).setCell ⟨g, j * 5, none⟩ (.string (f i).1.name)).setCell ⟨g, j * 5 + 1, none⟩ (.string (f i).1.parent)).cell? ⟨g, j * 5 + 2, none⟩ = some (.int .i64 (f j).1.lim.c) := by
    simp only [setCell_far (addr_ne (.inr (show i * 5 ≠ j * 5 + 2 by omega))), setCell_far (addr_ne (.inr (show i * 5 + 1 ≠ j * 5 + 2 by omega))), setCell_far (addr_ne (.inr (show i * 5 + 2 ≠ j * 5 + 2 by omega))), setCell_far (addr_ne (.inr (show i * 5 + 3 ≠ j * 5 + 2 by omega))), setCell_far (addr_ne (.inr (show i * 5 + 4 ≠ j * 5 + 2 by omega))), setCell_far (addr_ne (.inr (show j * 5 ≠ j * 5 + 2 by omega))), setCell_far (addr_ne (.inr (show j * 5 + 1 ≠ j * 5 + 2 by omega)))]; exact j2
  have d3 : ((((((((w.setCell ⟨g, i * 5, none⟩ (.string (f j).1.name)).setCell ⟨g, i * 5 + 1, none⟩ (.string (f j).1.parent)).setCell ⟨g, i * 5 + 2, none⟩ (.int .i64 (f j).1.lim.c)).setCell ⟨g, i * 5 + 3, none⟩ (.int .i64 (f j).1.lim.m)).setCell ⟨g, i * 5 + 4, none⟩ (.int .i64 (f j).1.lim.p)).setCell ⟨g, j * 5, none⟩ (.string (f i).1.name)).setCell ⟨g, j * 5 + 1, none⟩ (.string (f i).1.parent)).setCell ⟨g, j * 5 + 2, none⟩ (.int .i64 (f i).1.lim.c)).cell? ⟨g, j * 5 + 3, none⟩ = some (.int .i64 (f j).1.lim.m) := by
    simp only [setCell_far (addr_ne (.inr (show i * 5 ≠ j * 5 + 3 by omega))), setCell_far (addr_ne (.inr (show i * 5 + 1 ≠ j * 5 + 3 by omega))), setCell_far (addr_ne (.inr (show i * 5 + 2 ≠ j * 5 + 3 by omega))), setCell_far (addr_ne (.inr (show i * 5 + 3 ≠ j * 5 + 3 by omega))), setCell_far (addr_ne (.inr (show i * 5 + 4 ≠ j * 5 + 3 by omega))), setCell_far (addr_ne (.inr (show j * 5 ≠ j * 5 + 3 by omega))), setCell_far (addr_ne (.inr (show j * 5 + 1 ≠ j * 5 + 3 by omega))), setCell_far (addr_ne (.inr (show j * 5 + 2 ≠ j * 5 + 3 by omega)))]; exact j3
  have d4 : (((((((((w.setCell ⟨g, i * 5, none⟩ (.string (f j).1.name)).setCell ⟨g, i * 5 + 1, none⟩ (.string (f j).1.parent)).setCell ⟨g, i * 5 + 2, none⟩ (.int .i64 (f j).1.lim.c)).setCell ⟨g, i * 5 + 3, none⟩ (.int .i64 (f j).1.lim.m)).setCell ⟨g, i * 5 + 4, none⟩ (.int .i64 (f j).1.lim.p)).setCell ⟨g, j * 5, none⟩ (.string (f i).1.name)).setCell ⟨g, j * 5 + 1, none⟩ (.string (f i).1.parent)).setCell ⟨g, j * 5 + 2, none⟩ (.int .i64 (f i).1.lim.c)).setCell ⟨g, j * 5 + 3, none⟩ (.int .i64 (f i).1.lim.m)).cell? ⟨g, j * 5 + 4, none⟩ = some (.int .i64 (f j).1.lim.p) := by
    simp only [setCell_far (addr_ne (.inr (show i * 5 ≠ j * 5 + 4 by omega))), setCell_far (addr_ne (.inr (show i * 5 + 1 ≠ j * 5 + 4 by omega))), setCell_far (addr_ne (.inr (show i * 5 + 2 ≠ j * 5 + 4 by omega))), setCell_far (addr_ne (.inr (show i * 5 + 3 ≠ j * 5 + 4 by omega))), setCell_far (addr_ne (.inr (show i * 5 + 4 ≠ j * 5 + 4 by omega))), setCell_far (addr_ne (.inr (show j * 5 ≠ j * 5 + 4 by omega))), setCell_far (addr_ne (.inr (show j * 5 + 1 ≠ j * 5 + 4 by omega))), setCell_far (addr_ne (.inr (show j * 5 + 2 ≠ j * 5 + 4 by omega))), setCell_far (addr_ne (.inr (show j * 5 + 3 ≠ j * 5 + 4 by omega)))]; exact j4
  have HD := Lib.hid (s.half hi hj hij)
  have S0 := Lib.hid s
  clear s
  go_enter Try.func64, Try.ntmps64
  go_wp2_with fail
  go_region_with fail
  all_goals go_wp2
  all_goals exact bodyPost_end (v := .tuple #[]) (by simp [results, Try.results64, go_sem]) rfl ⟨rfl, 1, rfl⟩
set_option maxHeartbeats 4000000 in
set_option maxRecDepth 20000 in
theorem pswapD (g h n c : Nat) (f : Nat → W5 × Nat) (s : SrtAt w g h n f) (hn : n ≤ 1000) (i j : Nat) (hi : i < n) (hj : j < n) (hij : i ≠ j) :
    Calls Try.prog 66 #[.agg #[.slice (some ⟨g, 0, none⟩) n c, .slice (some ⟨h, 0, none⟩) n n], .int .i64 i, .int .i64 j] w fun e w' => e = .returned (.tuple #[]) ∧ KeepGH g h w w' ∧ SrtAt w' g h n (swF f i j) := by
  have BX := below_al (Below.refl w.heap.size w) (.cells #[.slice (some ⟨g, 0, none⟩) n c, .slice (some ⟨h, 0, none⟩) n n] 53)
  have SX := s.below BX
  have PS := Lib.hid (pswapL (w.alloc (.cells #[.slice (some ⟨g, 0, none⟩) n c, .slice (some ⟨h, 0, none⟩) n n] 53)) g h n c f SX hn i j hi hj hij)
  have NX := heap_alloc_new w (.cells #[.slice (some ⟨g, 0, none⟩) n c, .slice (some ⟨h, 0, none⟩) n n] 53)
  obtain ⟨hf1, hf2⟩ := SX.half hi hj hij
  have F1 := Lib.hid hf1
  have F2 := Lib.hid hf2
  have hbg : w.heap.size ≠ g := by have := s.lg; omega
  have c1 : (w.alloc (.cells #[.slice (some ⟨g, 0, none⟩) n c, .slice (some ⟨h, 0, none⟩) n n] 53)).cell? ⟨w.heap.size, 1, none⟩ = some (.slice (some ⟨h, 0, none⟩) n n) := by rw [cell_of_row _ _ 1 _ _ _ NX]; rfl
  have C1 := Lib.hid ((hf2 w.heap.size 1 hbg).trans c1)
  have hhg : h ≠ g := fun e => s.ne e.symm
  have D := Lib.hid (fun k (hk : k < n) => (hf2 h k hhg).trans (SX.dp k hk))
  have S0 := Lib.hid s
  have SXH := Lib.hid SX
  have K0 := Lib.hid (show KeepGH g h w (w.alloc (.cells #[.slice (some ⟨g, 0, none⟩) n c, .slice (some ⟨h, 0, none⟩) n n] 53)) from KeepGH.of BX)
  clear s SX hf1 hf2 BX NX
  go_enter Try.func66, Try.ntmps66
  go_wp2_with fail
  clear c1
  generalize w.alloc (.cells #[.slice (some ⟨g, 0, none⟩) n c, .slice (some ⟨h, 0, none⟩) n n] 53) = wx at *
  have KX := Lib.hid (K0.out.trans ((KeepGH.five g h wx (i * 5) (f j).1).trans (KeepGH.five g h (set5 wx g (i * 5) (f j).1) (j * 5) (f i).1)))
  have FX := Lib.hid (fun p => (set5_frozen (set5 wx g (i * 5) (f j).1) g (j * 5) (f i).1 p).trans (set5_frozen wx g (i * 5) (f j).1 p))
  generalize set5 (set5 wx g (i * 5) (f j).1) g (j * 5) (f i).1 = X at *
  with_reducible refine PS.out.mono ?_
  rintro e w1 ⟨rfl, q, rfl⟩
  have K1 := Lib.hid (KX.out.trans (KeepGH.drawn g h X q))
  have A1 := Lib.hid (fun k hk => w5_drewN (F1.out k hk) q)
  have A2 := Lib.hid (fun k hk => (cell_drewN X ⟨h, k, none⟩ q).trans (D.out k hk))
  have c1 := (cell_drewN X ⟨w.heap.size, 1, none⟩ q).trans C1.out
  have G1 := Lib.hid (fun o => (frozen_drewN X ⟨g, o, none⟩ q).trans ((FX.out ⟨g, o, none⟩).trans (SXH.out.fg o)))
  have G2 := Lib.hid (fun o => (frozen_drewN X ⟨h, o, none⟩ q).trans ((FX.out ⟨h, o, none⟩).trans (SXH.out.fh o)))
  clear PS F1 F2 C1 D K0 SXH KX FX
  generalize X.drewN q = w1 at *
  have hl1 : w.heap.size < w1.heap.size := World.block_lt_of_cell? _ _ c1
  have SW := Lib.hid (S0.out.swap hi hj hij A1.out A2.out G1.out G2.out (by have := S0.out.lg; omega) (by have := S0.out.lh; omega))
  have KW := Lib.hid (K1.out.trans ((KeepGH.cellH g h w1 i (.int .i64 ((f j).2 : Int))).trans (KeepGH.cellH g h (w1.setCell ⟨h, i, none⟩ (.int .i64 ((f j).2 : Int))) j (.int .i64 ((f i).2 : Int)))))
  have d0 := A2.out i hi
  have d1 := A2.out j hj
  have f0 := G2.out i
  have f1 := G2.out j
  have e0 : (w1.setCell ⟨h, i, none⟩ (.int .i64 ((f j).2 : Int))).cell? ⟨h, j, none⟩ = some (.int .i64 ((f j).2 : Int)) := (setCell_far (addr_ne (.inr hij))).trans d1
  have hhb : h ≠ w.heap.size := by have := S0.out.lh; omega
  have e1 : (w1.setCell ⟨h, i, none⟩ (.int .i64 ((f j).2 : Int))).cell? ⟨w.heap.size, 1, none⟩ = some (.slice (some ⟨h, 0, none⟩) n n) := (setCell_far (addr_ne (.inl hhb))).trans c1
  have q0 : (0 : Int) ≤ (i : Int) := by omega
  have q1 : (i : Int) < (n : Int) := by omega
  have q2 : (0 : Int) ≤ (j : Int) := by omega
  have q3 : (j : Int) < (n : Int) := by omega
  clear A1 A2 G1 G2 K1
  go_wp2_with fail
  go_region
  all_goals go_wp2
  all_goals exact bodyPost_end (v := .tuple #[]) (by simp [results, Try.results66, go_sem]) rfl ⟨rfl, KW.out.trans (KeepGH.of (below_drew (Below.refl _ _))), SW.out.below (below_drew (Below.refl _ _))⟩
end
end Go.Proofs.Ytmiadhcmhnjmfaa
