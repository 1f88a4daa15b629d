/- Rows of values appended to a row of the call's own, whatever row they lie in. -/
import Derived.Test.YtndeihmclecmcaaGreatDoorOwn
import Derived.Test.YtndeihmclecmcaaGreatDoorValP
namespace Go.Proofs.YtndeihmclecmcaaGreatDoor
open Go.RowKit
set_option linter.unusedVariables false
theorem run_append_nothing {P : Program} {w : World} (base : Nat) (t ty e : TypeId) (i : TypeInfo) (size : Nat) (ht : P.underlying t = some (.slice e)) (hi : P.info? e = some i)
    (v : Value) (n : Nat) (xs : List Value) (hown : w.ownsRow base e size v n xs) (c : Nat) :
    (Builtin.append_ #[t, t] ty #[v, .slice none 0 c]).run P w = .ok v w := by
  rcases hown.2 with ⟨rfl, rfl⟩ | ⟨g, cap, cur, rfl, _, _, hnc, _⟩
  · simp [Builtin.append_, run_underlying ht, sizeOf, typeInfo, hi, Builtin.lenOf, Builtin.firstCells]
  · simp [Builtin.append_, run_underlying ht, sizeOf, typeInfo, hi, Builtin.lenOf, Builtin.firstCells, hnc, storeCells]
theorem grown_refl (w : World) (row : Option Nat) : w.grownBy w row := ⟨rfl, rfl, rfl, Nat.le_refl _, fun _ _ _ => rfl⟩
theorem wpList_append_any {P : Program} (w : World) {ops : Array Oper} {rest : List Oper} {o : Oper} {a : Act} {Q : Exit → Act → World → Prop} (hgd : o.guard = none) (s x : Operand) (t : TypeId)
    (ho : o.op = .call { callee := .builtin .append, args := #[s, x], argTypes := #[t, t] })
    (base : Nat) (e : TypeId) (i : TypeInfo) (z : Value) (size bytes : Nat) (ht : P.underlying t = some (.slice e)) (hi : P.info? e = some i) (hz : i.zero = some z)
    (hsize : i.size = size) (hby : i.bytes = bytes) (hzs : z.cells.size = size) (hsz : 0 < size)
    (v : Value) (n : Nat) (xs : List Value) (hs : a.eval s = v) (hown : w.ownsRow base e size v n xs)
    (ao : Option Addr) (m c : Nat) (news : List Value) (hx : a.eval x = .slice ao m c) (hl : news.length = m * size) (hnone : ao = none → m = 0) (hnews : ∀ ad, ao = some ad → ∀ j u, news[j]? = some u → w.cell? (ad.add j) = some u) (h1 : ∀ u ∈ news, u.oneCell' = true)
    (h63 : n + m ≤ maxLen) (hbytes : (n + m) * bytes ≤ 140737488355328) (hbase : base ≤ w.heap.size)
    (h : ∀ v' w', w'.ownsRow base e size v' (n + m) (xs ++ news) → w.grownBy w' v.ownBlock → wpList P ops Q rest (a.put o.dst v') w') : wpList P ops Q (o :: rest) a w := by
  cases ao with
  | some ad => exact wpList_append_own w hgd s x t ho base e i z size bytes ht hi hz hsize hby hzs hsz v n xs hs hown ad m c news hx hl (hnews ad rfl) h1 h63 hbytes hbase fun v' w' h2 h3 _ => h v' w' h2 h3
  | none =>
    obtain rfl := hnone rfl
    have hn : news = [] := List.eq_nil_of_length_eq_zero (by simpa using hl)
    subst hn
    refine wpList_plain hgd fun K hK' => ?_
    have hrun := run_append_nothing (P := P) base t o.type e i size ht hi v n xs hown c
    unfold Oper.wp
    simp [execOp, ho, resolve, invoke, builtin, hs, hx, hrun, Result.andThen]
    exact hK' _ _ (by simpa using h v w (by simpa using hown) (grown_refl _ _))
theorem below_grown' {w wr w6 : World} {row : Option Nat} (hb : Below w.heap.size w wr) (hg : wr.grownBy w6 row) (hr : ∀ k, row = some k → w.heap.size ≤ k) : Below w.heap.size w w6 :=
  Below.grown hb hg hb.size hr
end Go.Proofs.YtndeihmclecmcaaGreatDoor
namespace Go.Proofs.YtndeihmclecmcaaGreatDoor
open Go.RowKit
set_option linter.unusedVariables false
theorem own_len {w : World} {B e z n : Nat} {v : Value} {xs : List Value} (h : w.ownsRow B e z v n xs) : ∃ ao cap, v = .slice ao n cap := by
  rcases h.2 with ⟨rfl, h0⟩ | ⟨g, cap, cur, rfl, _⟩
  · subst h0; exact ⟨_, _, rfl⟩
  · exact ⟨_, _, rfl⟩
theorem rowCells_snoc (ps : List (VL × Value)) (p : VL × Value) : rowCells (ps ++ [p]) = rowCells ps ++ pairCells p := by simp [rowCells]
/-- A row of the call's own, read. -/
theorem row_of_own {w : World} {B D : Nat} {ps : List (VL × Value)} {v : Value} (h : w.ownsRow B 39 4 v ps.length (rowCells ps)) (hl : ps.length ≤ maxLen) (hk : ∀ p ∈ ps, RowRd w D p.1.kids p.2) :
    RowRd w (D + 1) (ps.map (·.1)) v := by
  rcases h.2 with ⟨rfl, h0⟩ | ⟨g, cap, cur, rfl, _⟩
  · obtain rfl : ps = [] := List.eq_nil_of_length_eq_zero h0
    exact RowRd.nil _ _ _ _
  · refine ⟨by simpa using hl, some ⟨g, 0, none⟩, cap, by simp, fun i u hu => ?_⟩
    rw [List.getElem?_map] at hu
    obtain ⟨p, hp, rfl⟩ := Option.map_eq_some_iff.1 hu
    have k : ∀ r u, r < 4 → (pairCells p)[r]? = some u → w.cell? ⟨g, i * 4 + r, none⟩ = some u := by
      intro r u hr hu
      have := World.ownsRow.cells (g := g) h rfl _ u (rowCells_at ps i r p u hp hr hu)
      have ha : (⟨g, 0, none⟩ : Addr).add (i * 4 + r) = ⟨g, 0 + (i * 4 + r), none⟩ := by unfold Addr.add; split <;> simp_all
      rw [ha, Nat.zero_add] at this
      exact this
    have z0 := k 0 _ (by omega) rfl
    have z1 := k 1 _ (by omega) rfl
    have z2 := k 2 _ (by omega) rfl
    have z3 := k 3 _ (by omega) rfl
    refine ⟨g, 0, p.2, rfl, ?_, ?_, ?_, ?_, hk p (List.mem_of_getElem? hp)⟩
    · rw [Nat.zero_add]; simpa using z0
    · rw [Nat.zero_add]; exact z1
    · rw [Nat.zero_add]; exact z2
    · rw [Nat.zero_add]; exact z3
end Go.Proofs.YtndeihmclecmcaaGreatDoor
namespace Go.Proofs.YtndeihmclecmcaaGreatDoor
open Go.RowKit
set_option linter.unusedVariables false
/-- Rows within a row stay readable. -/
def KidsRd (w : World) (D : Nat) (ps : List (VL × Value)) : Prop := ∀ p ∈ ps, RowRd w D p.1.kids p.2
theorem KidsRd.below {w w' : World} {D : Nat} {ps : List (VL × Value)} (h : KidsRd w D ps) (hb : Below w.heap.size w w') : KidsRd w' D ps := fun p hp => (h p hp).below hb
theorem KidsRd.nil (w : World) (D : Nat) : KidsRd w D [] := fun p hp => by cases hp
theorem KidsRd.app {w : World} {D : Nat} {ps qs : List (VL × Value)} (h : KidsRd w D ps) (k : KidsRd w D qs) : KidsRd w D (ps ++ qs) := fun p hp => by
  rcases List.mem_append.1 hp with hp | hp
  · exact h p hp
  · exact k p hp
theorem KidsRd.one {w : World} {D : Nat} {ps : List (VL × Value)} (h : KidsRd w D ps) : ∀ u ∈ rowCells ps, u.oneCell' = true :=
  rowCells_one ps fun p hp => by obtain ⟨ao, cap, e⟩ := (h p hp).shape; exact ⟨_, _, _, e⟩
/-- A row as it is read, for an append: its pairs, and its cells. -/
theorem row_src {w : World} {D : Nat} {l : List VL} {ao : Option Addr} {n cap : Nat} (h : RowRd w D l (.slice ao n cap)) :
    ∃ ps : List (VL × Value), ps.map (·.1) = l ∧ ps.length = l.length ∧ KidsRd w (D - 1) ps ∧ (ao = none → l.length = 0) ∧ ∀ ad, ao = some ad → ∀ j u, (rowCells ps)[j]? = some u → w.cell? (ad.add j) = some u := by
  obtain ⟨ps, h1, h2, ao', cap', e, h3⟩ := h.pairs
  simp only [Value.slice.injEq] at e
  obtain ⟨rfl, -, -⟩ := e
  have hlen : ps.length = l.length := by rw [← h1]; simp
  refine ⟨ps, h1, hlen, fun p hp => (h2 p hp).2, fun hn => ?_, fun ad had j u hj => ?_⟩
  · by_cases h0 : l = []
    · rw [h0]; rfl
    · obtain ⟨g, o, e, -⟩ := h3 h0
      rw [hn] at e; cases e
  · obtain ⟨i, r, p, rfl, hr, hp, hu⟩ := rowCells_get ps j u hj
    have hne : l ≠ [] := by
      intro e
      rw [e] at hlen
      have := (List.getElem?_eq_some_iff.1 hp).1
      simp at hlen; rw [hlen] at this; simp at this
    obtain ⟨g, o, e, hg, hc⟩ := h3 hne
    rw [had] at e
    cases e
    have ha : (⟨g, o, none⟩ : Addr).add (i * 4 + r) = ⟨g, o + (i * 4 + r), none⟩ := by unfold Addr.add; split <;> simp_all
    rw [ha]
    obtain ⟨c0, c1, c2, c3⟩ := hc i p hp
    match r, hr, hu with
    | 0, _, hu => simp [pairCells] at hu; rw [← hu]; exact c0
    | 1, _, hu => simp [pairCells] at hu; rw [← hu, ← Nat.add_assoc]; exact c1
    | 2, _, hu => simp [pairCells] at hu; rw [← hu, ← Nat.add_assoc]; exact c2
    | 3, _, hu => simp [pairCells] at hu; rw [← hu, ← Nat.add_assoc]; exact c3
    | n + 4, hr, _ => omega
theorem own_src {w : World} {B e n cap : Nat} {ao : Option Addr} {xs : List Value} (h : w.ownsRow B e 4 (.slice ao n cap) n xs) : (ao = none → n = 0) ∧ ∀ ad, ao = some ad → ∀ j u, xs[j]? = some u → w.cell? (ad.add j) = some u := by
  rcases h.2 with ⟨e, h0⟩ | ⟨g, c, cur, e, _⟩
  · simp only [Value.slice.injEq] at e
    obtain ⟨rfl, -, -⟩ := e
    exact ⟨fun _ => h0, (fun ad h => by cases h)⟩
  · simp only [Value.slice.injEq] at e
    obtain ⟨rfl, -, -⟩ := e
    refine ⟨(fun h => by cases h), fun ad had j u hu => ?_⟩
    cases had
    exact World.ownsRow.cells (g := g) h rfl j u hu
theorem rowCells_app (ps qs : List (VL × Value)) : rowCells (ps ++ qs) = rowCells ps ++ rowCells qs := by simp [rowCells]
end Go.Proofs.YtndeihmclecmcaaGreatDoor
