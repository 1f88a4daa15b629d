/- The law of numbers: a row turned, in whatever order. -/
import Derived.Test.YtihlbnflgjidaaaDoorFunNb
import Derived.Deep.RegionLaw
namespace Go.Proofs.YtihlbnflgjidaaaDoor
open Go.RowKit
set_option linter.unusedVariables false
set_option linter.unusedSimpArgs false

theorem elemVals : Tryd.prog.elem 22 = 24 := by kernel_rfl
theorem sizeVal (w : World) : (sizeOf (Tryd.prog.elem 22)).run Tryd.prog w = .ok 4 w := by kernel_rfl
theorem vsl_from (a : Option Addr) (len cap : Nat) (r : Nat) (h : r ≤ len) (W : World) : (Instr.slice 22 (.slice a len cap) (some (.int .i64 (r : Int))) none none).run Tryd.prog W = .ok (sliced a r len cap 4) W := by
  rw [run_slice_l (P := Tryd.prog) W 22 a len cap (by rw [elemVals]; exact Tryd.underlying22) .i64 r (by omega) (by omega), sizeVal]
  rfl
theorem vsl_to (a : Option Addr) (len cap : Nat) (r : Nat) (h : r ≤ cap) (W : World) : (Instr.slice 22 (.slice a len cap) none (some (.int .i64 (r : Int))) none).run Tryd.prog W = .ok (sliced a 0 r cap 4) W := by
  rw [run_slice_h (P := Tryd.prog) W 22 a len cap (by rw [elemVals]; exact Tryd.underlying22) .i64 r (by omega) (by omega), sizeVal]
  rfl
theorem step_append_any {P : Program} {w : World} {ops : Array Oper} {o : Oper} {a : Act} {K : Act → World → Prop} {Q : Exit → Act → World → Prop} {E : Prop} (hgd : o.guard = none) (s x : Operand) (t : TypeId)
    (ho : o.op = .call { callee := .builtin .append, args := #[s, x], argTypes := #[t, t] })
    (base : Nat) (e : TypeId) (i : TypeInfo) (z : Value) (size bytes : Nat) (ht : P.underlying t = some (.slice e)) (hi : P.info? e = some i) (hz : i.zero = some z)
    (hsize : i.size = size) (hby : i.bytes = bytes) (hzs : z.cells.size = size) (hsz : 0 < size)
    (v : Value) (n : Nat) (xs : List Value) (hs : a.eval s = v) (hown : w.ownsRow base e size v n xs)
    (ad : Addr) (m c : Nat) (news : List Value) (hx : a.eval x = .slice (some ad) m c) (hl : news.length = m * size) (hnews : ∀ j u, news[j]? = some u → w.cell? (ad.add j) = some u) (h1 : ∀ u ∈ news, u.oneCell' = true)
    (h63 : n + m ≤ maxLen) (hbytes : (n + m) * bytes ≤ 140737488355328) (hbase : base ≤ w.heap.size)
    (h : ∀ v' w', w'.ownsRow base e size v' (n + m) (xs ++ news) → w.grownBy w' v.ownBlock → K (a.put o.dst v') w') :
    if Region.wanted o (yielded ops a.tmps) = true then Oper.wp P o a w K Q else E := by
  have hw : Region.wanted o (yielded ops a.tmps) = true := by simp [Region.wanted, hgd]
  rw [if_pos hw]
  exact wp_append_own w s x t ho base e i z size bytes ht hi hz hsize hby hzs hsz v n xs hs hown ad m c news hx hl hnews h1 h63 hbytes hbase fun v' w' h2 h3 _ => h v' w' h2 h3
/-- A row's cells at a place within it. -/
theorem own_at {w : World} {B n cap : Nat} {g : Nat} {ps : List (VL × Value)} (h : w.ownsRow B 24 4 (.slice (some ⟨g, 0, none⟩) n cap) n (rowCells ps)) (k : Nat) (j : Nat) (u : Value) (hu : (rowCells (ps.drop k))[j]? = some u) : w.cell? ((⟨g, k * 4, none⟩ : Addr).add j) = some u := by
  obtain ⟨i, r, p, rfl, hr, hp, hx⟩ := rowCells_get (ps.drop k) j u hu
  rw [List.getElem?_drop] at hp
  have h1 := World.ownsRow.cells (g := g) h rfl _ u (rowCells_at ps (k + i) r p u hp hr hx)
  have ha : (⟨g, 0, none⟩ : Addr).add ((k + i) * 4 + r) = ⟨g, 0 + ((k + i) * 4 + r), none⟩ := by unfold Addr.add; split <;> simp_all
  have hb : (⟨g, k * 4, none⟩ : Addr).add (i * 4 + r) = ⟨g, k * 4 + (i * 4 + r), none⟩ := by unfold Addr.add; split <;> simp_all
  rw [ha] at h1
  rw [hb, show k * 4 + (i * 4 + r) = 0 + ((k + i) * 4 + r) by rw [Nat.add_mul]; omega]
  exact h1
theorem own_front {w : World} {B n cap : Nat} {g : Nat} {ps : List (VL × Value)} (h : w.ownsRow B 24 4 (.slice (some ⟨g, 0, none⟩) n cap) n (rowCells ps)) (k : Nat) (j : Nat) (u : Value) (hu : (rowCells (ps.take k))[j]? = some u) : w.cell? ((⟨g, 0, none⟩ : Addr).add j) = some u := by
  obtain ⟨i, r, p, rfl, hr, hp, hx⟩ := rowCells_get (ps.take k) j u hu
  have hp2 : ps[i]? = some p := by
    rw [List.getElem?_take] at hp
    split at hp
    · exact hp
    · cases hp
  exact World.ownsRow.cells (g := g) h rfl _ u (rowCells_at ps i r p u hp2 hr hx)
theorem own_some {w : World} {B n : Nat} {v : Value} {xs : List Value} (h : w.ownsRow B 24 4 v n xs) (h0 : 0 < n) : ∃ g cap, v = .slice (some ⟨g, 0, none⟩) n cap ∧ n ≤ cap ∧ B ≤ g ∧ g < w.heap.size := by
  rcases h.2 with ⟨-, e⟩ | ⟨g, cap, cur, e, hb, hg, hc, -⟩
  · omega
  · exact ⟨g, cap, e, hc, hb, (Array.getElem?_eq_some_iff.1 hg).1⟩
theorem vsl_from' (g n cap k : Nat) (hk : k < n) (hc : n ≤ cap) (W : World) : (Instr.slice 22 (.slice (some ⟨g, 0, none⟩) n cap) (some (.int .i64 (k : Int))) none none).run Tryd.prog W = .ok (.slice (some ⟨g, k * 4, none⟩) (n - k) (cap - k)) W := by
  rw [vsl_from _ _ _ _ (by omega)]
  unfold sliced
  rw [if_neg (by omega)]
  have : (⟨g, 0, none⟩ : Addr).add (k * 4) = ⟨g, 0 + k * 4, none⟩ := by unfold Addr.add; split <;> simp_all
  simp [this]
theorem vsl_to' (g n cap k : Nat) (hk : k < n) (hc : n ≤ cap) (W : World) : (Instr.slice 22 (.slice (some ⟨g, 0, none⟩) n cap) none (some (.int .i64 (k : Int))) none).run Tryd.prog W = .ok (.slice (some ⟨g, 0, none⟩) k cap) W := by
  rw [vsl_to _ _ _ _ (by omega)]
  unfold sliced
  have : (⟨g, 0, none⟩ : Addr).add (0 * 4) = ⟨g, 0, none⟩ := by unfold Addr.add; split <;> simp_all
  simp [this]
theorem grown_keep {a b : World} {row : Option Nat} (h : a.grownBy b row) {p : Addr} {u : Value} (hp : a.cell? p = some u) (hr : ∀ k, row = some k → k ≠ p.block) : b.cell? p = some u :=
  (World.cell?_of_block (h.block _ (World.block_lt_of_cell? _ _ hp) (fun e => hr _ e.symm rfl))).trans hp
theorem add_block (g o j : Nat) : ((⟨g, o, none⟩ : Addr).add j).block = g := by unfold Addr.add; split <;> rfl
theorem np_one (ys : List Int) : ∀ u ∈ rowCells (ys.map np), u.oneCell' = true := rowCells_one _ (fun p hp => by obtain ⟨x, -, rfl⟩ := List.mem_map.1 hp; exact ⟨_, _, _, rfl⟩)
theorem own_new (w : World) (V : World) (hV : V.heap.size = w.heap.size) : (V.alloc (.cells #[] 24)).ownsRow w.heap.size 24 4 (.slice (some ⟨w.heap.size, 0, none⟩) 0 0) 0 [] := by
  refine ⟨by simp, .inr ⟨w.heap.size, 0, #[], rfl, Nat.le_refl _, ?_, Nat.le_refl _, Nat.zero_le _, by simp, by simp⟩⟩
  rw [← hV]; exact heap_alloc_new V _
end Go.Proofs.YtihlbnflgjidaaaDoor
