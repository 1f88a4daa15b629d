/- Live trees: the document's Create, walked. -/
import Derived.Test.YtmpakgabehplbaaTrG
namespace Go.Proofs.Ytmpakgabehplbaa
open Go.RowKit
set_option linter.unusedVariables false
set_option linter.unusedSimpArgs false
def i12s (l : List I12) : List Value := l.flatMap I12.cells
theorem i12s_len (l : List I12) : (i12s l).length = l.length * 12 := by
  induction l with
  | nil => rfl
  | cons x l ih => simp only [i12s, List.flatMap_cons, List.length_append, List.length_cons] at *; rw [ih]; simp [I12.cells]; omega
theorem i12s_at (l : List I12) : ∀ (i r : Nat) (u : I12), l[i]? = some u → r < 12 → (i12s l)[i * 12 + r]? = u.cells[r]? := by
  induction l with
  | nil => intro i r u hu; simp at hu
  | cons x l ih =>
    intro i r u hu hr
    cases i with
    | zero =>
      simp at hu; subst hu
      simp only [i12s, List.flatMap_cons, Nat.zero_mul, Nat.zero_add]
      rw [List.getElem?_append_left (by simpa [I12.cells] using hr)]
    | succ i =>
      have h := ih i r u (by simpa using hu) hr
      simp only [i12s, List.flatMap_cons] at h ⊢
      rw [List.getElem?_append_right (by simp [I12.cells]; omega), ← h]
      congr 1
      simp [I12.cells]; omega
theorem i12s_app (a b : List I12) : i12s (a ++ b) = i12s a ++ i12s b := by simp [i12s]
theorem i12c_one (x : I12) : ∀ u ∈ x.cells, u.oneCell' = true := by
  intro u hx
  simp only [I12.cells, List.mem_cons, List.not_mem_nil, or_false] at hx
  rcases hx with rfl | rfl | rfl | rfl | rfl | rfl | rfl | rfl | rfl | rfl | rfl | rfl <;> rfl
theorem i12s_one (l : List I12) : ∀ u ∈ i12s l, u.oneCell' = true := by
  intro u hu
  unfold i12s at hu
  obtain ⟨x, -, hx⟩ := List.mem_flatMap.1 hu
  exact i12c_one x u hx
/-- A row at cells that lie one behind the other. -/
theorem irow_of {w : World} {g o cap : Nat} {l : List I12} (h1 : l.length ≤ cap) (h2 : cap ≤ maxLen) (hc : ∀ j u, (i12s l)[j]? = some u → w.cell? ⟨g, o + j, none⟩ = some u) : IRow w l (.slice (some ⟨g, o, none⟩) l.length cap) := by
  refine ⟨_, _, rfl, h1, h2, fun i u hu => ⟨g, o, rfl, ?_⟩⟩
  have key : ∀ r v, r < 12 → u.cells[r]? = some v → w.cell? ⟨g, o + i * 12 + r, none⟩ = some v := by
    intro r v hr hv
    have := hc (i * 12 + r) v ((i12s_at l i r u hu hr).trans hv)
    rwa [← Nat.add_assoc] at this
  exact ⟨key 0 _ (by decide) rfl, key 1 _ (by decide) rfl, key 2 _ (by decide) rfl, key 3 _ (by decide) rfl, key 4 _ (by decide) rfl, key 5 _ (by decide) rfl, key 6 _ (by decide) rfl, key 7 _ (by decide) rfl, key 8 _ (by decide) rfl, key 9 _ (by decide) rfl, key 10 _ (by decide) rfl, key 11 _ (by decide) rfl⟩
/-- A row of nodes in a block that was made at B or later. -/
def IOwn (w : World) (B : Nat) (l : List I12) (v : Value) : Prop := w.ownsRow B 52 12 v l.length (i12s l)
theorem irow_of_own {w : World} {B : Nat} {v : Value} {l : List I12} (h : IOwn w B l v) : IRow w l v := by
  rcases h.2 with ⟨rfl, h0⟩ | ⟨g, cap, cur, rfl, hb, hg, h1, h2, h3, h4⟩
  · obtain rfl : l = [] := List.eq_nil_of_length_eq_zero h0
    exact IRow.nil w
  · refine irow_of h1 h2 fun j u hj => ?_
    have := World.ownsRow.cells (g := g) h rfl j u hj
    rwa [wadd] at this
theorem I12At.cell {w : World} {g o : Nat} {u : I12} (h : I12At w g o u) : ∀ r v, u.cells[r]? = some v → w.cell? ⟨g, o + r, none⟩ = some v
  | 0, v, hv => by simp [I12.cells] at hv; subst hv; exact h.c0
  | 1, v, hv => by simp [I12.cells] at hv; subst hv; exact h.c1
  | 2, v, hv => by simp [I12.cells] at hv; subst hv; exact h.c2
  | 3, v, hv => by simp [I12.cells] at hv; subst hv; exact h.c3
  | 4, v, hv => by simp [I12.cells] at hv; subst hv; exact h.c4
  | 5, v, hv => by simp [I12.cells] at hv; subst hv; exact h.c5
  | 6, v, hv => by simp [I12.cells] at hv; subst hv; exact h.c6
  | 7, v, hv => by simp [I12.cells] at hv; subst hv; exact h.c7
  | 8, v, hv => by simp [I12.cells] at hv; subst hv; exact h.c8
  | 9, v, hv => by simp [I12.cells] at hv; subst hv; exact h.c9
  | 10, v, hv => by simp [I12.cells] at hv; subst hv; exact h.c10
  | 11, v, hv => by simp [I12.cells] at hv; subst hv; exact h.c11
  | r + 12, v, hv => by simp [I12.cells] at hv
/-- A row's cells, for an append. -/
theorem IRow.src {w : World} {l : List I12} {ao : Option Addr} {n cap : Nat} (h : IRow w l (.slice ao n cap)) : (ao = none → n = 0) ∧ ∀ ad, ao = some ad → ∀ j u, (i12s l)[j]? = some u → w.cell? (ad.add j) = some u := by
  obtain ⟨ao', cap', e, h1, h2, hc⟩ := h
  simp only [Value.slice.injEq] at e
  obtain ⟨rfl, rfl, rfl⟩ := e
  refine ⟨fun hn => ?_, fun ad had j u hj => ?_⟩
  · cases hl : l with
    | nil => rfl
    | cons x r =>
      obtain ⟨g, o, e, -⟩ := hc 0 x (by rw [hl]; rfl)
      rw [hn] at e; cases e
  · have hjl : j < l.length * 12 := by rw [← i12s_len]; exact (List.getElem?_eq_some_iff.1 hj).1
    have hi : j / 12 < l.length := by omega
    obtain ⟨g, o, e, hx⟩ := hc (j / 12) _ (List.getElem?_eq_getElem hi)
    rw [had] at e
    cases e
    rw [wadd]
    have h5 := i12s_at l (j / 12) (j % 12) _ (List.getElem?_eq_getElem hi) (by omega)
    rw [show j / 12 * 12 + j % 12 = j by omega, hj] at h5
    have := hx.cell (j % 12) u h5.symm
    rwa [show o + j / 12 * 12 + j % 12 = o + j by omega] at this
theorem elemItem : Try.prog.elem 22 = 52 := by kernel_rfl
theorem sizeItem (w : World) : (sizeOf (Try.prog.elem 22)).run Try.prog w = .ok 12 w := by kernel_rfl
/-- What is left of a row from place k on; its first k. -/
theorem isl_from (ao : Option Addr) (n cap k : Nat) (h : k ≤ n) (W : World) : (Instr.slice 22 (.slice ao n cap) (some (.int .i64 (k : Int))) none none).run Try.prog W = .ok (sliced ao k n cap 12) W := by
  rw [run_slice_l (P := Try.prog) W 22 ao n cap (by rw [elemItem]; exact Try.underlying22) .i64 k (by omega) (by omega), sizeItem]
  rfl
theorem isl_take (ao : Option Addr) (n cap k : Nat) (h : k ≤ cap) (W : World) : (Instr.slice 22 (.slice ao n cap) none (some (.int .i64 (k : Int))) none).run Try.prog W = .ok (.slice ao k cap) W := by
  rw [run_slice_h (P := Try.prog) W 22 ao n cap (by rw [elemItem]; exact Try.underlying22) .i64 k (by omega) (by omega), sizeItem]
  cases ao with
  | none => simp [Result.andThen, sliced]
  | some a =>
    obtain ⟨g, o, p⟩ := a
    simp only [Result.andThen, sliced, Int.toNat_natCast, Nat.sub_zero, Nat.zero_mul]
    have e : (⟨g, o, p⟩ : Addr).add 0 = ⟨g, o, p⟩ := by unfold Addr.add; split <;> simp_all
    simp [e]
theorem IRow.take {w : World} {l : List I12} {ao : Option Addr} {n cap : Nat} (h : IRow w l (.slice ao n cap)) (k : Nat) (hk : k ≤ l.length) : IRow w (l.take k) (.slice ao k cap) := by
  obtain ⟨ao', cap', e, h1, h2, hc⟩ := h
  simp only [Value.slice.injEq] at e
  obtain ⟨rfl, rfl, rfl⟩ := e
  have hl : (l.take k).length = k := by rw [List.length_take]; omega
  refine ⟨ao, cap, by rw [hl], by omega, h2, fun i u hu => hc i u ?_⟩
  rw [List.getElem?_take] at hu
  split at hu
  · exact hu
  · cases hu
theorem IRow.drop {w : World} {l : List I12} {ao : Option Addr} {n cap : Nat} (h : IRow w l (.slice ao n cap)) (k : Nat) (hk : k ≤ l.length) : IRow w (l.drop k) (sliced ao k n cap 12) := by
  obtain ⟨ao', cap', e, h1, h2, hc⟩ := h
  simp only [Value.slice.injEq] at e
  obtain ⟨rfl, rfl, rfl⟩ := e
  have hl : (l.drop k).length = l.length - k := List.length_drop ..
  refine ⟨if cap = k then ao else ao.map (·.add (k * 12)), cap - k, by rw [hl]; rfl, by omega, by omega, fun i u hu => ?_⟩
  rw [List.getElem?_drop] at hu
  obtain ⟨g, o, e, h3⟩ := hc (k + i) u hu
  have hki : k + i < l.length := (List.getElem?_eq_some_iff.1 hu).1
  subst e
  refine ⟨g, o + k * 12, by rw [if_neg (by omega), Option.map_some, wadd], ?_⟩
  rw [show o + k * 12 + i * 12 = o + (k + i) * 12 by rw [Nat.add_mul]; omega]
  exact h3
theorem whileI {P : I12 → Bool} : ∀ {out : List I12} {j : Nat}, (∀ k y, k < j → out[k]? = some y → P y = true) → (∀ y, out[j]? = some y → P y = false) → out.takeWhile P = out.take j ∧ out.dropWhile P = out.drop j
  | [], j, _, _ => by simp
  | a :: out, 0, _, h => by
    have := h a rfl
    simp [this]
  | a :: out, j + 1, h, h2 => by
    have h0 := h 0 a (by omega) rfl
    have ih := whileI (P := P) (out := out) (j := j) (fun k y hk hy => h (k + 1) y (by omega) (by simpa using hy)) (fun y hy => h2 y (by simpa using hy))
    simp only [List.takeWhile_cons, List.dropWhile_cons, h0, if_true, List.take_succ_cons, List.drop_succ_cons, ih.1, ih.2, and_self]
theorem info_item : (Try.prog.info? 52).map (fun i => (i.zero, i.size, i.bytes)) = some (some (.agg #[.string ⟨#[]⟩, .string ⟨#[]⟩, .int .i64 0, .int .i64 0, .int .i64 0, .int .i64 0, .int .i64 0, .int .i64 0, .int .i64 0, .int .i64 0, .int .i64 0, .int .i64 0]), 12, 112) := by kernel_rfl
end Go.Proofs.Ytmpakgabehplbaa
namespace Go.Proofs.Ytmpakgabehplbaa
open Go.RowKit
set_option linter.unusedVariables false
set_option linter.unusedSimpArgs false
/-- A call that answers row l, which it made. -/
def MadeI (l : List I12) (w : World) (e : Ending) (w' : World) : Prop := ∃ v, e = .returned v ∧ Below w.heap.size w w' ∧ IOwn w' w.heap.size l v
/-- What a Create, an Admit answers: a row that it made, or an error. -/
def GrownI (E : Nat) (l : List I12) (w : World) (e : Ending) (w' : World) : Prop := ∃ v, e = .returned (.agg #[v, .int .i64 (E : Int)]) ∧ Below w.heap.size w w' ∧ IOwn w' w.heap.size (if E = 0 then l else []) v
theorem IOwn_nil (w : World) (B : Nat) : IOwn w B [] (.slice none 0 0) := own_none _ _ _ _
/-- The block of an answer. -/
def GBlk (w : World) (g : Nat) (v : Value) (E : Int) : Prop := w.heap[g]? = some (.cells #[v, .int .i64 E] 38 (0, 0))
theorem GBlk.lt {w : World} {g : Nat} {v : Value} {E : Int} (h : GBlk w g v E) : g < w.heap.size := (Array.getElem?_eq_some_iff.1 h).1
theorem GBlk.cells {w : World} {g : Nat} {v : Value} {E : Int} (h : GBlk w g v E) : w.cell? ⟨g, 0, none⟩ = some v ∧ w.cell? ⟨g, 1, none⟩ = some (.int .i64 E) := ⟨(cell_of_row _ _ 0 _ _ _ h).trans rfl, (cell_of_row _ _ 1 _ _ _ h).trans rfl⟩
theorem GBlk.below {w w' : World} {g : Nat} {v : Value} {E : Int} (h : GBlk w g v E) (hb : Below w.heap.size w w') : GBlk w' g v E := (hb.block g h.lt).trans h
theorem GBlk.new (w : World) (v : Value) (E : Int) : GBlk (w.alloc (.cells #[v, .int .i64 E] 38)) w.heap.size v E := heap_alloc_new w _
theorem GBlk.free {w : World} {g : Nat} {v : Value} {E : Int} (h : GBlk w g v E) (o : Nat) : w.frozen? ⟨g, o, none⟩ = false := by
  unfold GBlk at h
  simp [World.frozen?, h]
theorem GBlk.set {w : World} {g : Nat} {v : Value} {E : Int} (h : GBlk w g v E) (v' : Value) (E' : Int) : GBlk ((w.setCell ⟨g, 0, none⟩ v').setCell ⟨g, 1, none⟩ (.int .i64 E')) g v' E' := by
  have h0 := heap_setCell_same w g 0 _ _ v' h
  exact heap_setCell_same _ g 1 _ _ (.int .i64 E') h0
theorem IOwn.far {w : World} {B g : Nat} {l : List I12} {v : Value} (h : IOwn w B l v) (hg : v.ownBlock ≠ some g) (a b : Value) : IOwn ((w.setCell ⟨g, 0, none⟩ a).setCell ⟨g, 1, none⟩ b) B l v := by
  have hsz : ((w.setCell ⟨g, 0, none⟩ a).setCell ⟨g, 1, none⟩ b).heap.size = w.heap.size := by simp
  refine ⟨h.1, ?_⟩
  rcases h.2 with hn | ⟨f, cap, cur, rfl, hbf, hf, r⟩
  · exact .inl hn
  · have hne : f ≠ g := fun e => hg (by subst e; rfl)
    refine .inr ⟨f, cap, cur, rfl, hbf, ?_, r⟩
    rw [Below.heap_setCell _ _ _ _ hne, Below.heap_setCell _ _ _ _ hne]; exact hf
theorem IOwn.apart {w : World} {B g : Nat} {l : List I12} {v u : Value} {E : Int} (h : IOwn w B l v) (hg : GBlk w g u E) : v.ownBlock ≠ some g := by
  intro e
  rcases h.2 with ⟨rfl, -⟩ | ⟨f, cap, cur, rfl, hbf, hf, r⟩
  · cases e
  · obtain rfl : f = g := by
      have : (Value.slice (some ⟨f, 0, none⟩) l.length cap).ownBlock = some f := rfl
      rw [this] at e; exact Option.some.inj e
    unfold GBlk at hg
    rw [hf] at hg
    simp only [Option.some.injEq, Obj.cells.injEq] at hg
    exact absurd hg.2.1 (by decide)
theorem below_set2 {B : Nat} {w W : World} (h : Below B w W) {g : Nat} (hg : B ≤ g) (v0 v1 : Value) : Below B w ((W.setCell ⟨g, 0, none⟩ v0).setCell ⟨g, 1, none⟩ v1) := (h.setCell hg _).setCell hg _
section
variable (w : World)
theorem rno (E : Nat) : Calls Try.prog 50 #[.int .i64 (E : Int)] w (Made (.agg #[.slice none 0 0, .int .i64 (E : Int)]) w) := by
  go_enter Try.func50, Try.ntmps50
  go_wp2_with fail
  exact bodyPost_ret (v := .agg #[.slice none 0 0, .int .i64 (E : Int)]) (by simp [results, Try.results50, go_sem]) rfl ⟨rfl, below_al (Below.refl _ _) _⟩
set_option maxHeartbeats 4000000 in
set_option maxRecDepth 20000 in
theorem rcopied (l : List I12) (lv : Value) (h : IRow w l lv) (hl : l.length ≤ 1000) : Calls Try.prog 51 #[lv] w (MadeI l w) := by
  obtain ⟨i0, hi0, hz0, hz1, hz2⟩ := info_partsT info_item
  obtain ⟨ao, cap, rfl⟩ := h.shape
  have BE := Lib.hid (below_al (Below.refl w.heap.size w) (.cells #[] 52))
  have E0 := Lib.hid (show (w.alloc (.cells #[] 52)).ownsRow w.heap.size 52 12 (.slice (some ⟨w.heap.size, 0, none⟩) 0 0) 0 [] from ⟨by simp, .inr ⟨w.heap.size, 0, #[], rfl, Nat.le_refl _, heap_alloc_new w _, Nat.le_refl _, Nat.zero_le _, by simp, by simp⟩⟩)
  obtain ⟨S1, S2⟩ := (h.below BE.out).src
  have s1 := Lib.hid S1
  have s2 := Lib.hid S2
  clear S1 S2 h
  go_enter Try.func51, Try.ntmps51
  go_wp2_with (at_builtin; refine wpList_append_any _ rfl _ _ 22 rfl w.heap.size 52 i0 _ 12 112 Try.underlying22 hi0 hz0 hz1 hz2 rfl (by decide) (.slice (some ⟨w.heap.size, 0, none⟩) 0 0) 0 [] rfl E0.out ao l.length cap (i12s l) rfl (i12s_len l) s1.out s2.out (i12s_one _) (by unfold maxLen; omega) (by omega) (by simp) ?_)
  intro v1 w1 hown1 hg1
  have B1 := Lib.hid (below_grown' BE.out hg1 (fun q hq => by have h := (World.ownsRow.lt E0.out q hq).1; omega))
  have O1 := Lib.hid (show IOwn w1 w.heap.size l v1 by unfold IOwn; first | exact hown1 | (rw [Nat.zero_add] at hown1; exact hown1) | simpa using hown1)
  clear hown1 hg1 s1 s2 E0 BE
  go_wp2_with fail
  go_ret
  exact ⟨_, rfl, B1.out, O1.out⟩
end
end Go.Proofs.Ytmpakgabehplbaa
