/- Package eval: the law's example; nodes of numbers, truths, references, sums. -/
import Derived.Test.YtndeihmclecmcaaGreatDoorEvJ
namespace Go.Proofs.YtndeihmclecmcaaGreatDoor
open Go.RowKit
set_option linter.unusedVariables false
set_option linter.unusedSimpArgs false
def madeS (L : ByteArray → Option VL) (n : NodeL) (vs : List VL) : Option (VL × Int) :=
  if n.kind = 1 then some (.mk 1 n.num ⟨#[]⟩ [], 0)
  else if n.kind = 3 then some (.mk 3 n.num ⟨#[]⟩ [], 0)
  else if n.kind = 4 then some (refR L n.text)
  else if n.kind = 19 then (match vs with | [a, b] => some (twoR 0 19 a b) | _ => none)
  else none
theorem twoR_add (a b : VL) : I64 (twoR 0 19 a b).1.num := by
  unfold twoR
  rw [if_neg (by omega), if_neg (by omega), if_neg (by omega), if_pos (by omega)]
  split
  · unfold numR
    have e : reckonR 19 a.num b.num = fitR (a.num + b.num) := rfl
    rw [e]
    unfold fitR
    by_cases h : -9223372036854775808 ≤ a.num + b.num ∧ a.num + b.num ≤ 9223372036854775807
    · rw [if_pos h]; exact h
    · rw [if_neg h]
      show I64 0
      unfold I64; omega
  · show I64 0
    unfold I64; omega
/-- What names stand for has no list. -/
def LeafL (L : ByteArray → Option VL) : Prop := ∀ x v, L x = some v → I64 v.num ∧ v.kids = []
theorem madeS_ok (X : World → Prop) (L : ByteArray → Option VL) (hL : LeafL L) (n : NodeL) (hn : I64 n.num) (ht : n.text.size ≤ maxLen) (vs : List VL) (r : VL × Int) (h : madeS L n vs = some r) : MadeOK X L n vs r ∧ I64 r.1.num ∧ r.1.kids = [] := by
  unfold madeS at h
  by_cases k1 : n.kind = 1
  · rw [if_pos k1] at h
    obtain rfl := Option.some.inj h
    exact ⟨made_num X L n vs k1, hn, rfl⟩
  rw [if_neg k1] at h
  by_cases k3 : n.kind = 3
  · rw [if_pos k3] at h
    obtain rfl := Option.some.inj h
    exact ⟨made_bool X L n vs k3, hn, rfl⟩
  rw [if_neg k3] at h
  by_cases k4 : n.kind = 4
  · rw [if_pos k4] at h
    obtain rfl := Option.some.inj h
    refine ⟨made_ref X L n vs k4 ht, ?_⟩
    unfold refR
    cases hx : L n.text with
    | none => exact ⟨by show I64 0; unfold I64; omega, rfl⟩
    | some v => exact hL _ _ hx
  rw [if_neg k4] at h
  by_cases k19 : n.kind = 19
  · rw [if_pos k19] at h
    match vs, h with
    | [a, b], h =>
      obtain rfl := Option.some.inj h
      have := made_two X L n a b (by omega)
      rw [k19] at this
      exact ⟨this, twoR_add a b, twoR_kids 0 19 a b⟩
  · rw [if_neg k19] at h; cases h
/-- Nodes that lie in one block. -/
theorem nodes_of_block {w : World} {g cap : Nat} {ns : List NodeL} {xs : Array Value} {t : TypeId} (h : w.heap[g]? = some (.cells xs t (0, 0))) (hr : NodesRow w ns xs.toList) : NodesRd w (.slice (some ⟨g, 0, none⟩) ns.length cap) ns :=
  ⟨xs.toList, ⟨some ⟨g, 0, none⟩, cap, rfl, fun j u hj => ⟨g, 0, rfl, by rw [Nat.zero_add, cell_of_row w g j xs t (0, 0) h]; simpa using hj⟩⟩, hr⟩
theorem places_of_block {w : World} {g cap : Nat} {ks : List Int} {t : TypeId} (h : w.heap[g]? = some (.cells (kidCells ks).toArray t (0, 0))) : PlacesRd w (.slice (some ⟨g, 0, none⟩) ks.length cap) ks :=
  ⟨some ⟨g, 0, none⟩, cap, rfl, fun j u hj => ⟨g, 0, rfl, by rw [Nat.zero_add, cell_of_row w g j _ t (0, 0) h]; simpa using hj⟩⟩
theorem places_nil (w : World) (ao : Option Addr) (cap : Nat) : PlacesRd w (.slice ao 0 cap) [] := ⟨ao, cap, rfl, fun j u hj => by simp [kidCells] at hj⟩
theorem parts_nil (w : World) (ao : Option Addr) (cap : Nat) : PartsRd w (.slice ao 0 cap) [] := ⟨ao, cap, rfl, fun j u hj => by simp [partCells] at hj⟩
theorem binds_nil (w : World) (D : Nat) (ao : Option Addr) (cap : Nat) : BindsRd w D (.slice ao 0 cap) [] := ⟨ao, cap, rfl, fun i b hi => by simp at hi⟩
def sum3 : List NodeL := [⟨1, 1, ⟨#[]⟩, [], []⟩, ⟨1, 2, ⟨#[]⟩, [], []⟩, ⟨19, 0, ⟨#[]⟩, [], [0, 1]⟩]
theorem sum3_tree : treeP sum3 = true := by decide
theorem sum3_walk : Walk (fun _ => True) (lookL []) sum3 (madeS (lookL [])) (vnum 3, 0) where
  kids := by
    intro n hn
    simp [sum3] at hn
    rcases hn with rfl | rfl | rfl <;> simp [sum3]
  above := by
    refine ⟨rfl, fun j hj => ?_⟩
    have hj : j + 1 < 3 := hj
    refine ⟨2, ⟨19, 0, ⟨#[]⟩, [], [0, 1]⟩, 0, [1], ?_, rfl, rfl, by simp, rfl⟩
    match j, hj with
    | 0, _ => rfl
    | 1, _ => rfl
  few := by simp [sum3]
  some_ := by simp [sum3]
  plain := by
    intro n hn
    simp [sum3] at hn
    rcases hn with rfl | rfl | rfl <;> rfl
  made := by
    intro n hn vs r hr
    refine madeS_ok _ _ (fun x v h => by simp [lookL] at h) n ?_ ?_ vs r hr
    · simp [sum3] at hn
      rcases hn with rfl | rfl | rfl <;> (unfold I64; simp)
    · simp [sum3] at hn
      rcases hn with rfl | rfl | rfl <;> (show (0 : Nat) ≤ maxLen; exact Nat.zero_le _)
  ans := by rfl
  leaf := by simp [vnum, VL.kind]
  keep := fun _ _ _ _ => trivial
section
variable (w : World)
theorem sum3_rd (V : World) (G : Nat) (hk : V.heap[G]? = some (.cells #[.int .i64 0, .int .i64 1] 3 (0, 0))) (hn : V.heap[G + 1]? = some (.cells #[.int .i64 1, .int .i64 1, .string ⟨#[]⟩, .slice none 0 0, .slice none 0 0, .int .i64 1, .int .i64 2, .string ⟨#[]⟩, .slice none 0 0, .slice none 0 0, .int .i64 19, .int .i64 0, .string ⟨#[]⟩, .slice none 0 0, .slice (some ⟨G, 0, none⟩) 2 2] 35 (0, 0))) : NodesRd V (.slice (some ⟨G + 1, 0, none⟩) 3 3) sum3 :=
  nodes_of_block (ns := sum3) hn ⟨.slice none 0 0, .slice none 0 0, _, rfl, parts_nil _ _ _, places_nil _ _ _, .slice none 0 0, .slice none 0 0, _, rfl, parts_nil _ _ _, places_nil _ _ _, .slice none 0 0, .slice (some ⟨G, 0, none⟩) 2 2, [], rfl, parts_nil _ _ _, places_of_block (ks := [0, 1]) hk, rfl⟩
theorem sum3_few : ∀ n ∈ sum3, Few n ∧ n.text.size ≤ 100000 ∧ n.kids.length ≤ 100000 := by
  intro n hn
  simp [sum3] at hn
  rcases hn with rfl | rfl | rfl <;> exact ⟨⟨Nat.zero_le _, fun p hp => by cases hp⟩, Nat.zero_le _, by simp⟩
end
section
variable (w : World)
end
end Go.Proofs.YtndeihmclecmcaaGreatDoor
