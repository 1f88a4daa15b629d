/- Package want: deepen. -/
import Derived.Test.YtmiadhcmhnjmfaaWpB
namespace Go.Proofs.Ytmiadhcmhnjmfaa
open Go.RowKit
set_option linter.unusedVariables false
set_option linter.unusedSimpArgs false
theorem left_del (l : List W5) (del : List ByteArray) (s : ByteArray) : leftI l (s :: del) = fun x => if x = s then [] else leftI l del x := by
  funext x
  unfold leftI
  by_cases h : x = s
  · subst h; simp
  · simp [h]
theorem natC_at {xs : List Nat} {j k : Nat} (h : xs[j]? = some k) : (natC xs)[j]? = some (.int .i64 (k : Int)) := by
  unfold natC; rw [List.getElem?_map, h]; rfl
theorem natC_set (xs : List Nat) (j k : Nat) : natC (xs.set j k) = (natC xs).set j (.int .i64 (k : Int)) := by
  unfold natC; rw [List.map_set]
/-- Rows that are gone through: the map of what is left, the row, the next one, how deep each stands. -/
structure GoDown (w wr : World) (g h n : Nat) (l : List W5) (d : DataW Value) (V : ByteArray → Value) (del : List ByteArray) (rv : Value) (row : List Nat) (nv : Value) (nx ds : List Nat) : Prop where
  mp : MapIn wr w.heap.size g n d V (leftI l del)
  row : wr.ownsRow w.heap.size 3 1 rv row.length (natC row)
  nxt : wr.ownsRow w.heap.size 3 1 nv nx.length (natC nx)
  dep : wr.ownsRow w.heap.size 3 1 (.slice (some ⟨h, 0, none⟩) n n) n (natC ds)
  hg : h ≠ g
  a1 : rv.ownBlock ≠ some h
  a2 : rv.ownBlock ≠ some g
  a3 : nv.ownBlock ≠ some h
  a4 : nv.ownBlock ≠ some g
  a5 : ∀ x, (V x).ownBlock ≠ some h
  a6 : ∀ x k, (V x).ownBlock = some k → rv.ownBlock ≠ some k
  a7 : ∀ x k, (V x).ownBlock = some k → nv.ownBlock ≠ some k
  a8 : ∀ k, rv.ownBlock = some k → nv.ownBlock ≠ some k
  low : w.heap.size ≤ g
theorem kept_ne {w w' : World} {B e z n : Nat} {v : Value} {xs : List Value} {row : Option Nat} (h : w.ownsRow B e z v n xs) (hg : w.grownBy w' row) (hne : ∀ k, v.ownBlock = some k → row ≠ some k) : w'.ownsRow B e z v n xs :=
  h.kept hg (by
    by_cases hn : v.ownBlock = none
    · exact .inl hn
    · right
      intro e
      obtain ⟨k, hk⟩ := Option.ne_none_iff_exists'.1 hn
      exact hne k hk (by rw [← e]; exact hk))
variable {w wr : World} {g h n : Nat} {l : List W5} {d : DataW Value} {V : ByteArray → Value} {del : List ByteArray} {rv : Value} {row : List Nat} {nv : Value} {nx ds : List Nat}
/-- One is as deep. -/
theorem GoDown.put (G : GoDown w wr g h n l d V del rv row nv nx ds) (i k : Nat) : GoDown w (wr.setCell ⟨h, i, none⟩ (.int .i64 (k : Int))) g h n l d V del rv row nv nx (ds.set i k) := by
  obtain ⟨s1, s2⟩ := G.dep.stored i (.int .i64 (k : Int))
  rw [← natC_set] at s1
  have e : ∀ v : Value, v.ownBlock ≠ some h → ∀ q, v.ownBlock = some q → some h ≠ some q := fun v hv q hq e => hv (hq.trans e.symm)
  exact ⟨G.mp.kept s2 (fun e => G.hg (by simpa using e)) (fun x => e _ (G.a5 x)), kept_ne G.row s2 (e _ G.a1), kept_ne G.nxt s2 (e _ G.a3), s1, G.hg, G.a1, G.a2, G.a3, G.a4, G.a5, G.a6, G.a7, G.a8, G.low⟩
/-- A row is struck. -/
theorem GoDown.strike (G : GoDown w wr g h n l d V del rv row nv nx ds) {w' : World} {s : ByteArray} (h' : w'.ownsMap Try.prog 9 heldW g n (d.del (keyW s))) (hg : wr.grownBy w' (some g)) :
    GoDown w w' g h n l (d.del (keyW s)) (fun x => if x = s then nilS else V x) (s :: del) rv row nv nx ds := by
  have e : ∀ v : Value, v.ownBlock ≠ some g → ∀ q, v.ownBlock = some q → some g ≠ some q := fun v hv q hq e => hv (hq.trans e.symm)
  refine ⟨by rw [left_del]; exact G.mp.del h' hg, kept_ne G.row hg (e _ G.a2), kept_ne G.nxt hg (e _ G.a4), kept_ne G.dep hg (fun q hq => by simp [Value.ownBlock] at hq; subst hq; intro e; exact G.hg (by simpa using e.symm)), G.hg, G.a1, G.a2, G.a3, G.a4, fun x => ?_, fun x k hk => ?_, fun x k hk => ?_, G.a8, G.low⟩
  · by_cases hx : x = s
    · simp [hx, Value.ownBlock]
    · simp only [if_neg hx]; exact G.a5 x
  · by_cases hx : x = s
    · simp [hx, Value.ownBlock] at hk
    · simp only [if_neg hx] at hk; exact G.a6 x k hk
  · by_cases hx : x = s
    · simp [hx, Value.ownBlock] at hk
    · simp only [if_neg hx] at hk; exact G.a7 x k hk
/-- Some come next. -/
theorem GoDown.more (G : GoDown w wr g h n l d V del rv row nv nx ds) {w' : World} {v : Value} {ys : List Nat} (hg : wr.grownBy w' nv.ownBlock) (ho : w'.ownsRow w.heap.size 3 1 v (nx ++ ys).length (natC (nx ++ ys))) (hat : nv.ownBlock = v.ownBlock ∨ v.ownBlock = some wr.heap.size) :
    GoDown w w' g h n l d V del rv row v (nx ++ ys) ds := by
  have hV : ∀ x k, (V x).ownBlock = some k → k < wr.heap.size := fun x k hk => ((G.mp.row x).lt k hk).2
  have hR : ∀ k, rv.ownBlock = some k → k < wr.heap.size := fun k hk => (G.row.lt k hk).2
  have hH : h < wr.heap.size := (G.dep.lt h rfl).2
  have hG := G.mp.lt
  refine ⟨G.mp.kept hg G.a4 (fun x k hk => G.a7 x k hk), kept_ne G.row hg G.a8, ho, kept_ne G.dep hg (fun q hq => by simp [Value.ownBlock] at hq; subst hq; exact G.a3), G.hg, G.a1, G.a2, ?_, ?_, G.a5, G.a6, fun x k hk => ?_, fun k hk => ?_, G.low⟩
  all_goals rcases hat with h1 | h1
  · rw [← h1]; exact G.a3
  · rw [h1]; simp; omega
  · rw [← h1]; exact G.a4
  · rw [h1]; simp; omega
  · rw [← h1]; exact G.a7 x k hk
  · rw [h1]; have := hV x k hk; simp; omega
  · rw [← h1]; exact G.a8 k hk
  · rw [h1]; have := hR k hk; simp; omega
/-- The next row's turn. -/
theorem GoDown.turn (G : GoDown w wr g h n l d V del rv row nv nx ds) : GoDown w wr g h n l d V del nv nx nilS [] ds :=
  ⟨G.mp, G.nxt, (own_none _ _ _ _ : World.ownsRow _ _ _ _ _ _ _), G.dep, G.hg, G.a3, G.a4, by simp [Value.ownBlock], by simp [Value.ownBlock], G.a5, G.a7, fun x k _ => by simp [Value.ownBlock], fun k _ => by simp [Value.ownBlock], G.low⟩
theorem GoDown.clear (G : GoDown w wr g h n l d V del rv row nv nx ds) : GoDown w wr g h n l d V del rv row nilS [] ds :=
  ⟨G.mp, G.row, (own_none _ _ _ _ : World.ownsRow _ _ _ _ _ _ _), G.dep, G.hg, G.a1, G.a2, by simp [Value.ownBlock], by simp [Value.ownBlock], G.a5, G.a6, fun x k _ => by simp [Value.ownBlock], fun k _ => by simp [Value.ownBlock], G.low⟩
theorem left_nil (l : List W5) : leftI l [] = fun s => kidsI l s l.length := by funext s; unfold leftI; rw [if_neg (by simp)]
/-- The start: the first row is taken out of the map. -/
theorem GoDown.start {w w3 w4 : World} {g h : Nat} {l : List W5} {d : DataW Value} {V : ByteArray → Value} (M : MapIn w3 g g l.length d V (fun s => kidsI l s l.length)) (hh : h < g) (hw : w.heap.size ≤ h)
    (dep : w3.ownsRow w.heap.size 3 1 (.slice (some ⟨h, 0, none⟩) l.length l.length) l.length (natC (List.replicate l.length 0)))
    (h4 : w4.ownsMap Try.prog 9 heldW g l.length (d.del (keyW ⟨#[]⟩))) (hg : w3.grownBy w4 (some g)) :
    GoDown w w4 g h l.length l (d.del (keyW ⟨#[]⟩)) (fun x => if x = ⟨#[]⟩ then nilS else V x) [⟨#[]⟩] (V ⟨#[]⟩) (kidsI l ⟨#[]⟩ l.length) nilS [] (List.replicate l.length 0) := by
  have hlow : ∀ x q, (V x).ownBlock = some q → g ≤ q := fun x q hq => ((M.row x).lt q hq).1
  have M' : MapIn w3 w.heap.size g l.length d V (leftI l []) := by
    rw [left_nil]
    exact ⟨M.map, M.at', fun x => by
      refine ⟨(M.row x).1, ?_⟩
      rcases (M.row x).2 with hn | ⟨b, cap, cur, e, hbb, hgg, r⟩
      · exact .inl hn
      · exact .inr ⟨b, cap, cur, e, by omega, hgg, r⟩, M.apart, M.off, M.nil⟩
  have e : ∀ v : Value, v.ownBlock ≠ some g → ∀ q, v.ownBlock = some q → some g ≠ some q := fun v hv q hq e => hv (hq.trans e.symm)
  refine ⟨by rw [left_del]; exact M'.del h4 hg, kept_ne (M'.row _) hg (e _ (M.off _)) |> fun t => by rw [left_nil] at t; exact t, (own_none _ _ _ _ : World.ownsRow _ _ _ _ _ _ _), kept_ne dep hg (fun q hq => by simp [Value.ownBlock] at hq; subst hq; intro e; simp at e; omega), by omega, fun h1 => by have := hlow _ _ h1; omega, M.off _, by simp [Value.ownBlock], by simp [Value.ownBlock], fun x => ?_, fun x k hk => ?_, fun x k _ => by simp [Value.ownBlock], fun k _ => by simp [Value.ownBlock], by omega⟩
  · by_cases hx : x = ⟨#[]⟩
    · simp [hx, Value.ownBlock]
    · simp only [if_neg hx]; intro h1; have := hlow _ _ h1; omega
  · by_cases hx : x = ⟨#[]⟩
    · simp [hx, Value.ownBlock] at hk
    · simp only [if_neg hx] at hk; exact M.apart x _ k hx hk
/-- A place of a row that is owned. -/
theorem own_cell {w : World} {B : Nat} {ao : Option Addr} {cap : Nat} {xs : List Nat} (h : w.ownsRow B 3 1 (.slice ao xs.length cap) xs.length (natC xs)) {j k : Nat} (hj : xs[j]? = some k) : ∃ b, ao = some ⟨b, 0, none⟩ ∧ w.cell? ⟨b, j, none⟩ = some (.int .i64 (k : Int)) := by
  have hjl := (List.getElem?_eq_some_iff.1 hj).1
  rcases h.2 with ⟨e, h0⟩ | ⟨b, cap', cur, e, _⟩
  · omega
  · simp only [Value.slice.injEq] at e
    obtain ⟨rfl, -, rfl⟩ := e
    refine ⟨b, rfl, ?_⟩
    rw [h.cellAt j (by omega)]
    exact natC_at hj
/-- What is appended: nothing, or cells. -/
theorem own_src {w : World} {B : Nat} {v : Value} {xs : List Nat} (h : w.ownsRow B 3 1 v xs.length (natC xs)) : ∃ ao m cap, v = .slice ao m cap ∧ m = xs.length ∧ (ao = none → m = 0) ∧ ∀ ad, ao = some ad → ∀ j u, (natC xs)[j]? = some u → w.cell? (ad.add j) = some u := by
  rcases h.2 with ⟨rfl, h0⟩ | ⟨b, cap', cur, rfl, r⟩
  · exact ⟨none, 0, 0, rfl, h0.symm, fun _ => rfl, fun ad e => by cases e⟩
  · refine ⟨some ⟨b, 0, none⟩, xs.length, cap', rfl, rfl, (fun e => by cases e), fun ad e j u hj => ?_⟩
    cases e
    exact World.ownsRow.cells (g := b) h rfl j u hj
theorem grow_cell {w w' : World} {row : Option Nat} {p : Addr} {v : Value} (hg : w.grownBy w' row) (h : w.cell? p = some v) (hne : row ≠ some p.block) : w'.cell? p = some v :=
  (World.cell?_of_block (hg.block p.block (World.block_lt_of_cell? _ _ h) (fun e => hne e.symm))).trans h
theorem World.lt_of_heap {w : World} {b : Nat} {o : Obj} (h : w.heap[b]? = some o) : b < w.heap.size := (Array.getElem?_eq_some_iff.1 h).1
theorem wpList_append_none {P : Program} (w : World) {ops : Array Oper} {rest : List Oper} {o : Oper} {a : Act} {Q : Exit → Act → World → Prop} (hgd : o.guard = none) (s x : Operand) (t : TypeId)
    (ho : o.op = .call { callee := .builtin .append, args := #[s, x], argTypes := #[t, t] })
    (base : Nat) (e : TypeId) (i : TypeInfo) (size : Nat) (ht : P.underlying t = some (.slice e)) (hi : P.info? e = some i)
    (v : Value) (n : Nat) (xs : List Value) (hs : a.eval s = v) (hown : w.ownsRow base e size v n xs) (c : Nat) (hx : a.eval x = .slice none 0 c)
    (h : wpList P ops Q rest (a.put o.dst v) w) : wpList P ops Q (o :: rest) a w := by
  refine wpList_plain hgd fun K hK' => ?_
  have hrun := run_append_nothing (P := P) base t o.type e i size ht hi v n xs hown c
  unfold Oper.wp
  simp [execOp, ho, resolve, invoke, builtin, hs, hx, hrun, Result.andThen]
  exact hK' _ _ h
end Go.Proofs.Ytmiadhcmhnjmfaa
