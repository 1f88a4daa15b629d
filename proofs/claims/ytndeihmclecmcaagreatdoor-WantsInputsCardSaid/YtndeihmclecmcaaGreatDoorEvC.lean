/- Package eval: the small methods of what asks a tree's nodes. -/
import Derived.Test.YtndeihmclecmcaaGreatDoorEvB
import Derived.Test.YtndeihmclecmcaaGreatDoorNodU
import Derived.Test.YtndeihmclecmcaaGreatDoorOwnW
namespace Go.Proofs.YtndeihmclecmcaaGreatDoor
open Go.RowKit
set_option linter.unusedVariables false
set_option linter.unusedSimpArgs false
theorem elemVals : Tryz.prog.elem 37 = 39 := by kernel_rfl
theorem sizeVal4 (w : World) : (sizeOf (Tryz.prog.elem 37)).run Tryz.prog w = .ok 4 w := by kernel_rfl
theorem sl4_from (a : Option Addr) (len cap : Nat) (r : Nat) (h : r ≤ len) (W : World) : (Instr.slice 37 (.slice a len cap) (some (.int .i64 (r : Int))) none none).run Tryz.prog W = .ok (sliced a r len cap 4) W := by
  rw [run_slice_l (P := Tryz.prog) W 37 a len cap (by rw [elemVals]; exact Tryz.underlying37) .i64 r (by omega) (by omega), sizeVal4]
  rfl
theorem sl4_to (a : Option Addr) (len cap : Nat) (r : Nat) (h : r ≤ cap) (W : World) : (Instr.slice 37 (.slice a len cap) none (some (.int .i64 (r : Int))) none).run Tryz.prog W = .ok (sliced a 0 r cap 4) W := by
  rw [run_slice_h (P := Tryz.prog) W 37 a len cap (by rw [elemVals]; exact Tryz.underlying37) .i64 r (by omega) (by omega), sizeVal4]
  rfl
/-- The end of a row of values of one's own, as it is read. -/
theorem own_drop4 {w : World} {B D m cap : Nat} {ao : Option Addr} {ps : List (VL × Value)} (h : w.ownsRow B 39 4 (.slice ao m cap) m (rowCells ps)) (hm : ps.length = m) (hk : KidsRd w D ps) (r : Nat) (hr : r ≤ m) :
    ∃ ao' cap', sliced ao r m cap 4 = .slice ao' (m - r) cap' ∧ RowRd w (D + 1) ((ps.drop r).map (·.1)) (.slice ao' (m - r) cap') := by
  have hlen : ((ps.drop r).map (·.1)).length = m - r := by simp [hm]
  refine ⟨_, _, rfl, ?_⟩
  rcases h.2 with ⟨e, h0⟩ | ⟨g, cap2, cur, e, hB, hg, hmc, hcm, hcs, htk⟩
  · simp at e
    have : (ps.drop r).map (·.1) = [] := List.eq_nil_of_length_eq_zero (by omega)
    rw [this]
    have hz : m - r = 0 := by omega
    rw [hz]
    exact RowRd.nil _ _ _ _
  · simp only [Value.slice.injEq] at e
    obtain ⟨rfl, -, rfl⟩ := e
    by_cases hz : m - r = 0
    · have : (ps.drop r).map (·.1) = [] := List.eq_nil_of_length_eq_zero (by omega)
      rw [this, hz]
      exact RowRd.nil _ _ _ _
    · refine ⟨by rw [hlen]; unfold maxLen at *; omega, _, _, by rw [hlen], fun i u hu => ?_⟩
      rw [List.getElem?_map, List.getElem?_drop] at hu
      obtain ⟨p, hp, rfl⟩ := Option.map_eq_some_iff.1 hu
      have k : ∀ q x, q < 4 → (pairCells p)[q]? = some x → w.cell? ⟨g, 0 + r * 4 + i * 4 + q, none⟩ = some x := by
        intro q x hq hx
        have := World.ownsRow.cells (g := g) h rfl _ x (rowCells_at ps (r + i) q p x hp hq hx)
        have ha : (⟨g, 0, none⟩ : Addr).add ((r + i) * 4 + q) = ⟨g, 0 + r * 4 + i * 4 + q, none⟩ := by rw [show 0 + r * 4 + i * 4 + q = 0 + ((r + i) * 4 + q) by omega]; unfold Addr.add; split <;> simp_all
        rwa [ha] at this
      have z0 := k 0 _ (by omega) rfl
      have z1 := k 1 _ (by omega) rfl
      have z2 := k 2 _ (by omega) rfl
      have z3 := k 3 _ (by omega) rfl
      refine ⟨g, 0 + r * 4, p.2, ?_, z0, z1, z2, z3, hk p (List.mem_of_getElem? hp)⟩
      rw [if_neg (by omega)]
      simp [Addr.add]
      intro h; omega
theorem own_take4 {w : World} {B m cap : Nat} {ao : Option Addr} {ps : List (VL × Value)} (h : w.ownsRow B 39 4 (.slice ao m cap) m (rowCells ps)) (hm : ps.length = m) (r : Nat) (hr : r ≤ m) :
    r ≤ cap ∧ sliced ao 0 r cap 4 = .slice ao r cap ∧ w.ownsRow B 39 4 (.slice ao r cap) (ps.take r).length (rowCells (ps.take r)) := by
  have hl : (ps.take r).length = r := by simp; omega
  rw [hl]
  rcases h.2 with ⟨e, h0⟩ | ⟨g, cap', cur, e, hB, hg, hmc, hcm, hsz, htk⟩
  · simp at e
    obtain ⟨rfl, -, rfl⟩ := e
    have : r = 0 := by omega
    subst this
    exact ⟨Nat.le_refl _, rfl, World.ownsRow_nil _ _ _ _⟩
  · simp at e
    obtain ⟨rfl, rfl⟩ := e
    refine ⟨by omega, ?_, by rw [rowCells_len, hl], .inr ⟨g, cap, cur, rfl, hB, hg, by omega, hcm, hsz, ?_⟩⟩
    · unfold sliced
      have : ((⟨g, 0, none⟩ : Addr).add (0 * 4)) = ⟨g, 0, none⟩ := by simp [Addr.add]
      split <;> simp [this]
    · have h2 : cur.toList.take (r * 4) = (cur.toList.take (m * 4)).take (r * 4) := by rw [List.take_take]; congr 1; omega
      rw [h2, htk]
      conv => lhs; rw [← List.take_append_drop r ps]
      rw [rowCells_app, List.take_append_of_le_length (by rw [rowCells_len, hl]; exact Nat.le_refl _), List.take_of_length_le (by rw [rowCells_len, hl]; exact Nat.le_refl _)]
theorem own_blocksE {w w' : World} {B e z : Nat} {v : Value} {n : Nat} {xs : List Value} (h : w.ownsRow B e z v n xs) (hk : ∀ g, v.ownBlock = some g → w'.heap[g]? = w.heap[g]?) : w'.ownsRow B e z v n xs := by
  refine ⟨h.1, ?_⟩
  rcases h.2 with hn | ⟨g, cap, cur, rfl, hbg, hg, r⟩
  · exact .inl hn
  · exact .inr ⟨g, cap, cur, rfl, hbg, (hk g rfl).trans hg, r⟩
/-- Does it hang on a kid which others are asked? -/
def choosesB (k : Int) : Bool := k == 11 || k == 12 || k == 10
def needsR (n : NodeL) : Nat := if choosesB n.kind then 1 else n.kids.length
section
variable (w : World)
set_option maxRecDepth 20000 in
theorem pchooses (k : Int) : Calls Tryz.prog 128 #[.int .i64 k] w fun e w' => e = .returned (.bool (choosesB k)) ∧ w = w' := by
  unfold choosesB
  by_cases h1 : k = 11
  · subst h1
    go_enter Tryz.func128, Tryz.ntmps128
    go_wp2_with fail
    go_ret
    exact ⟨rfl, rfl⟩
  by_cases h2 : k = 12
  · subst h2
    go_enter Tryz.func128, Tryz.ntmps128
    go_wp2_with fail
    go_ret
    exact ⟨rfl, rfl⟩
  have g1 : (k == 11) = false := by simpa using h1
  have g2 : (k == 12) = false := by simpa using h2
  rw [g1, g2]
  clear h1 h2
  go_enter Tryz.func128, Tryz.ntmps128
  go_wp2_with fail
  go_ret
  exact ⟨by simp, rfl⟩
set_option maxRecDepth 20000 in
theorem pneeds (n : NodeL) (pao kao : Option Addr) (pn pcap kcap : Nat) :
    Calls Tryz.prog 99 #[.agg #[.int .i64 n.kind, .int .i64 n.num, .string n.text, .slice pao pn pcap, .slice kao n.kids.length kcap]] w (Made (.int .i64 (needsR n : Nat)) w) := by
  have B := Lib.hid (show Below w.heap.size w (w.alloc (.cells #[.int .i64 n.kind, .int .i64 n.num, .string n.text, .slice pao pn pcap, .slice kao n.kids.length kcap] 35)) from (Below.refl _ _).alloc (Nat.le_refl _) _)
  cases hc : choosesB n.kind
  · have E := Lib.hid (show needsR n = n.kids.length by unfold needsR; rw [hc]; rfl)
    rw [E.out]
    go_enter Tryz.func99, Tryz.ntmps99
    go_wp2_with fail
    refine (pchooses _ n.kind).mono ?_
    rw [hc]
    rintro e w1 ⟨rfl, rfl⟩
    go_wp2_with fail
    go_ret
    exact ⟨rfl, B.out⟩
  · have E := Lib.hid (show needsR n = 1 by unfold needsR; rw [hc]; rfl)
    rw [E.out]
    go_enter Tryz.func99, Tryz.ntmps99
    go_wp2_with fail
    refine (pchooses _ n.kind).mono ?_
    rw [hc]
    rintro e w1 ⟨rfl, rfl⟩
    go_wp2_with fail
    go_ret
    exact ⟨rfl, B.out⟩
/-- The block of what asks. -/
def AskB (w : World) (b g : Nat) (nv av vv : Value) : Prop := w.heap[b]? = some (.cells #[.map (some g), nv, av, vv] 178 (0, 0))
theorem AskB.cells {w : World} {b g : Nat} {nv av vv : Value} (h : AskB w b g nv av vv) : w.cell? ⟨b, 0, none⟩ = some (.map (some g)) ∧ w.cell? ⟨b, 1, none⟩ = some nv ∧ w.cell? ⟨b, 2, none⟩ = some av ∧ w.cell? ⟨b, 3, none⟩ = some vv ∧ b < w.heap.size ∧ w.frozen? ⟨b, 3, none⟩ = false :=
  ⟨cell_of_row w b 0 _ _ _ h, cell_of_row w b 1 _ _ _ h, cell_of_row w b 2 _ _ _ h, cell_of_row w b 3 _ _ _ h, (Array.getElem?_eq_some_iff.1 h).1, by
    have h : w.heap[b]? = some (.cells #[.map (some g), nv, av, vv] 178 (0, 0)) := h
    simp [World.frozen?, h]⟩
theorem AskB.below {w w' : World} {b g : Nat} {nv av vv : Value} (h : AskB w b g nv av vv) (hb : Below w.heap.size w w') : AskB w' b g nv av vv := (hb.block b (Array.getElem?_eq_some_iff.1 h).1).trans h
theorem AskB.set {w : World} {b g : Nat} {nv av vv : Value} (h : AskB w b g nv av vv) (v' : Value) : AskB (w.setCell ⟨b, 3, none⟩ v') b g nv av v' := heap_setCell_same w b 3 _ _ v' h
set_option maxHeartbeats 1000000 in
set_option maxRecDepth 20000 in
theorem ptake (b g B : Nat) (hbB : b < B) (nv av vv : Value) (ps : List (VL × Value)) (h : AskB w b g nv av vv) (ho : w.ownsRow B 39 4 vv ps.length (rowCells ps)) (hk : KidsRd w 0 ps) (hl : ps.length ≤ 100000) (k : Nat) (hkl : k ≤ ps.length) :
    Calls Tryz.prog 98 #[.pointer (some ⟨b, 0, none⟩), .int .i64 k] w fun e w' => ∃ ao cap vv', e = .returned (.slice ao k cap) ∧ w' = w.setCell ⟨b, 3, none⟩ vv' ∧ vv'.ownBlock = vv.ownBlock ∧
      RowRd w' 1 ((ps.drop (ps.length - k)).map (·.1)) (.slice ao k cap) ∧ w.ownsRow B 39 4 vv' (ps.take (ps.length - k)).length (rowCells (ps.take (ps.length - k))) := by
  obtain ⟨ro, rc, rfl⟩ := own_len ho
  obtain ⟨hrc, htk, hown⟩ := own_take4 ho rfl (ps.length - k) (by omega)
  have ho' : (w.setCell ⟨b, 3, none⟩ (.slice ro (ps.length - k) rc)).ownsRow B 39 4 (.slice ro ps.length rc) ps.length (rowCells ps) :=
    own_blocksE ho (fun q hq => heap_setCell_other w ⟨b, 3, none⟩ q _ (by have := (World.ownsRow.lt ho q hq).1; simp; omega))
  obtain ⟨ao', cap', hsl, hdr⟩ := own_drop4 (D := 0) ho' rfl (fun p hp => hk p hp) (ps.length - k) (by omega)
  have hkk : ps.length - (ps.length - k) = k := by omega
  rw [hkk] at hsl hdr
  have DR := Lib.hid hdr
  have OW := Lib.hid hown
  have sl1 := fun W => (sl4_from ro ps.length rc (ps.length - k) (by omega) W).trans (by rw [hsl])
  have sl2 := fun W => (sl4_to ro ps.length rc (ps.length - k) hrc W).trans (by rw [htk])
  have hsub : (ps.length : Int) - (k : Int) = ((ps.length - k : Nat) : Int) := by omega
  obtain ⟨-, -, -, c3, -, f3⟩ := h.cells
  clear h ho ho' hk hdr hown hsl htk
  generalize hr : ps.length - k = r at *
  have hw : IntKind.i64.wrap ((ps.length : Int) - (k : Int)) = (r : Int) := by rw [hsub, IntKind.wrap_i64]; omega
  go_enter Tryz.func98, Tryz.ntmps98
  go_wp2_with fail
  go_ret
  exact ⟨_, _, _, rfl, rfl, by cases ro <;> rfl, DR.out, OW.out⟩
end
end Go.Proofs.YtndeihmclecmcaaGreatDoor
