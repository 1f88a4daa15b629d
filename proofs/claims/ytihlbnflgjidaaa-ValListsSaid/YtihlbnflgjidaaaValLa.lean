/- The law of lists of values: what its calls tell; lists within lists. -/
import Derived.Test.YtihlbnflgjidaaaValV
import Derived.Test.YtihlbnflgjidaaaOwnW
import Derived.Test.YtihlbnflgjidaaaI16s
namespace Go.Proofs.Ytihlbnflgjidaaa
open Go.RowKit
set_option linter.unusedVariables false
set_option linter.unusedSimpArgs false

def np (n : Int) : VL × Value := (vnum n, .slice none 0 0)
theorem np_rd {w : World} {B : Nat} {v : Value} {xs : List Int} (h : w.ownsRow B 26 4 v xs.length (rowCells (xs.map np))) (hk : xs.length ≤ 100000) : RowRd w 1 (xs.map vnum) v := by
  have h1 := row_of_own (D := 0) (ps := xs.map np) (by rw [List.length_map]; exact h) (by rw [List.length_map]; unfold maxLen; omega) (fun p hp => by
    obtain ⟨x, -, rfl⟩ := List.mem_map.1 hp; exact RowRd.nil _ _ _ _)
  rw [List.map_map] at h1
  exact h1
theorem empty_text : (⟨#[]⟩ : ByteArray).toList.isEmpty = true := by kernel_rfl
theorem may_num (d : Nat) (x : Int) : mayB d (vnum x) = true := by
  have hl : leafB (vnum x) = true := by
    show (if (1 : Int) = 1 then (⟨#[]⟩ : ByteArray).toList.isEmpty && ([] : List VL).length == 0 else _) = true
    rw [if_pos rfl, empty_text]; rfl
  cases d with
  | zero => exact hl
  | succ d =>
    show (if (1 : Int) = 4 then _ else leafB (vnum x)) = true
    rw [if_neg (by decide)]; exact hl
theorem may_vlist (d : Nat) (l : List VL) : mayB (d + 1) (vlist l) = (decide (l.length ≤ 64) && l.all (mayB d)) := by
  show (if (4 : Int) = 4 then (0 : Int) == 0 && (⟨#[]⟩ : ByteArray).toList.isEmpty && decide (l.length ≤ 64) && l.all (mayB d) else _) = _
  rw [if_pos rfl, empty_text]; rfl
theorem may_nums {xs : List Int} (h : xs.length ≤ 64) : mayB 64 (vlist (xs.map vnum)) = true := by
  rw [may_vlist, decide_eq_true (by rw [List.length_map]; exact h), Bool.true_and, List.all_eq_true]
  intro v hv
  obtain ⟨x, -, rfl⟩ := List.mem_map.1 hv
  exact may_num 63 x
theorem may_long {l : List VL} (h : 64 < l.length) : mayB 64 (vlist l) = false := by
  rw [may_vlist, decide_eq_false (by omega), Bool.false_and]
/-- Lists within lists. -/
def deepV : Nat → VL
  | 0 => vlist []
  | n + 1 => vlist [deepV n]
theorem may_deep : ∀ (d n : Nat), mayB d (deepV n) = decide (n < d) := by
  intro d
  induction d with
  | zero =>
    intro n
    have hl : leafB (deepV n) = false := leaf_list (by cases n <;> rfl)
    show leafB (deepV n) = _
    rw [hl, decide_eq_false (by omega)]
  | succ d ih =>
    intro n
    cases n with
    | zero => rw [show deepV 0 = vlist [] from rfl, may_vlist]; exact (decide_eq_true (Nat.succ_pos d)).symm
    | succ n =>
      rw [show deepV (n + 1) = vlist [deepV n] from rfl, may_vlist]
      simp only [List.all_cons, List.all_nil, Bool.and_true, ih]
      rw [show (decide ([deepV n].length ≤ 64)) = true from rfl, Bool.true_and]
      exact decide_eq_decide.2 (by omega)
theorem deep_kind (n : Nat) : (deepV n).kind = 4 ∧ (deepV n).num = 0 ∧ (deepV n).text = ⟨#[]⟩ := by cases n <;> exact ⟨rfl, rfl, rfl⟩
/-- A block that holds one value, behind a store of another one. -/
theorem blk_set4 {w : World} {g : Nat} {a b c d : Value} {t : TypeId} (h : w.heap[g]? = some (.cells #[a, b, c, d] t (0, 0))) (a' b' c' d' : Value) :
    ((((w.setCell ⟨g, 0, none⟩ a').setCell ⟨g, 1, none⟩ b').setCell ⟨g, 2, none⟩ c').setCell ⟨g, 3, none⟩ d').heap[g]? = some (.cells #[a', b', c', d'] t (0, 0)) := by
  have h0 := heap_setCell_same w g 0 _ _ a' h
  have h1 := heap_setCell_same _ g 1 _ _ b' h0
  have h2 := heap_setCell_same _ g 2 _ _ c' h1
  exact heap_setCell_same _ g 3 _ _ d' h2
/-- One list round another one, in blocks other than G. -/
theorem deep_row {w : World} {G g D n : Nat} {lv : Value} (hg : w.heap[g]? = some (.cells #[.int .i64 4, .int .i64 0, .string ⟨#[]⟩, lv] 26 (0, 0))) (hn : g ≠ G) (hr : RowIn w (fun b => b ≠ G) D (deepV n).kids lv) :
    RowIn w (fun b => b ≠ G) (D + 1) (deepV (n + 1)).kids (.slice (some ⟨g, 0, none⟩) 1 1) := by
  obtain ⟨e1, e2, e3⟩ := deep_kind n
  refine ⟨by show 1 ≤ maxLen; decide, _, _, rfl, fun i u hu => ?_⟩
  cases i with
  | zero =>
    have hu' : deepV n = u := by simpa [deepV, vlist, VL.kids] using hu
    subst hu'
    refine ⟨g, 0, lv, rfl, hn, ?_, ?_, ?_, ?_, hr⟩
    · rw [e1]; exact cell_of_row w g 0 _ _ _ hg
    · rw [e2]; exact cell_of_row w g 1 _ _ _ hg
    · rw [e3]; exact cell_of_row w g 2 _ _ _ hg
    · exact cell_of_row w g 3 _ _ _ hg
  | succ i => simp [deepV, vlist, VL.kids] at hu
/-- A value without a list, or an error. -/
def Leaf (k n c : Int) (w : World) (e : Ending) (w' : World) : Prop := ∃ ao cap, e = .returned (.tuple #[.agg #[.int .i64 k, .int .i64 n, .string ⟨#[]⟩, .slice ao 0 cap], .int .i64 c]) ∧ Below w.heap.size w w'
section
variable (w : World)
theorem t_index_none (l : List VL) (lv : Value) (n : Int) (h : RowRd w 1 l lv) (hn : n < 0 ∨ (l.length : Int) ≤ n) :
    Calls Try.prog 9 #[.agg #[.int .i64 4, .int .i64 0, .string ⟨#[]⟩, lv], .agg #[.int .i64 1, .int .i64 n, .string ⟨#[]⟩, .slice none 0 0]] w (Leaf 0 0 2 w) :=
  (vindex_none w 1 l lv n h hn).mono fun e w' ⟨he, hb⟩ => ⟨none, 0, he, hb⟩
theorem t_index_at (xs : List Int) (lv : Value) (i : Nat) (x : Int) (h : RowRd w 1 (xs.map vnum) lv) (hx : xs[i]? = some x) :
    Calls Try.prog 9 #[.agg #[.int .i64 4, .int .i64 0, .string ⟨#[]⟩, lv], .agg #[.int .i64 1, .int .i64 (i : Int), .string ⟨#[]⟩, .slice none 0 0]] w (Leaf 1 x 0 w) := by
  refine (vindex_at w 1 64 _ lv i (vnum x) i rfl h (by rw [List.getElem?_map, hx]; rfl) (may_num 64 x)).mono fun e w' ⟨lv', he, hin, hb⟩ => ?_
  obtain ⟨ao, cap, rfl⟩ := hin.rd.shape
  exact ⟨ao, cap, he, hb⟩
end
end Go.Proofs.Ytihlbnflgjidaaa
