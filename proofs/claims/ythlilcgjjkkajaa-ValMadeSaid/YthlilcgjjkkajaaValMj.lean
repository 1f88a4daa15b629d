/- What the law of values by numbers calls, in the forms that its region wants. -/
import Derived.Test.YthlilcgjjkkajaaValMh
namespace Go.Proofs.Ythlilcgjjkkajaa
open Go.RowKit
set_option linter.unusedVariables false
set_option linter.unusedSimpArgs false

section
variable (w : World)
theorem made_one (k : Int) (a : VL) (lao : Option Addr) (ln lcap : Nat) (hi : I64 a.num) (x : VL × Int) (hx : oneR k a = x) :
    Calls Try.prog 11 #[.int .i64 k, .agg #[.int .i64 a.kind, .int .i64 a.num, .string a.text, .slice lao ln lcap]] w (Doc x w) := by rw [← hx]; exact rone w k a lao ln lcap hi
theorem made_two (D : Nat) (k : Int) (a b : VL) (la lb : Value) (ha : RowRd w D a.kids la) (hb : RowRd w D b.kids lb) (hi : I64 a.num) (hj : I64 b.num) (y : VL × Int) (hy : twoR D k a b = y) :
    Calls Try.prog 12 #[.int .i64 k, .agg #[.int .i64 a.kind, .int .i64 a.num, .string a.text, la], .agg #[.int .i64 b.kind, .int .i64 b.num, .string b.text, lb]] w (Doc y w) := by rw [← hy]; exact rtwo w D k a b la lb ha hb hi hj
/-- As DocR, the slice written out. -/
def DocS (D : Nat) (k n : Int) (s : ByteArray) (l : List VL) (c : Int) (w : World) (e : Ending) (w' : World) : Prop := ∃ lo lc, e = .returned (.agg #[.int .i64 k, .int .i64 n, .string s, .slice lo l.length lc, .int .i64 c]) ∧ RowRd w' D l (.slice lo l.length lc) ∧ Below w.heap.size w w'
theorem made_idx (D : Nat) (a b : VL) (la : Value) (lao2 : Option Addr) (ln2 lcap2 : Nat) (ha : RowRd w D a.kids la) (hi : I64 b.num) (z : VL × Int) (hz : idxR a b = z) :
    Calls Try.prog 13 #[.agg #[.int .i64 a.kind, .int .i64 a.num, .string a.text, la], .agg #[.int .i64 b.kind, .int .i64 b.num, .string b.text, .slice lao2 ln2 lcap2]] w (DocS (D - 1) z.1.kind z.1.num z.1.text z.1.kids z.2 w) := by
  rw [← hz]
  exact (rindex w D a b la lao2 ln2 lcap2 ha hi).mono fun e w' ⟨lv, he, hr, hb⟩ => by
    obtain ⟨lo, lc, rfl⟩ := hr.shape
    exact ⟨lo, lc, he, hr, hb⟩
theorem row_three {w : World} {D g : Nat} {v u t : VL} {lv lu lt : Value} (hg : w.heap[g]? = some (.cells #[.int .i64 v.kind, .int .i64 v.num, .string v.text, lv, .int .i64 u.kind, .int .i64 u.num, .string u.text, lu, .int .i64 t.kind, .int .i64 t.num, .string t.text, lt] 26 (0, 0)))
    (hr : RowRd w D v.kids lv) (hs : RowRd w D u.kids lu) (ht : RowRd w D t.kids lt) : RowRd w (D + 1) [v, u, t] (.slice (some ⟨g, 0, none⟩) 3 3) := by
  refine ⟨by simp [maxLen], _, _, rfl, fun i x hx => ?_⟩
  match i, hx with
  | 0, hx => simp at hx; subst hx; exact ⟨g, 0, lv, rfl, cell_of_row w g 0 _ _ _ hg, cell_of_row w g 1 _ _ _ hg, cell_of_row w g 2 _ _ _ hg, cell_of_row w g 3 _ _ _ hg, hr⟩
  | 1, hx => simp at hx; subst hx; exact ⟨g, 0, lu, rfl, cell_of_row w g 4 _ _ _ hg, cell_of_row w g 5 _ _ _ hg, cell_of_row w g 6 _ _ _ hg, cell_of_row w g 7 _ _ _ hg, hs⟩
  | 2, hx => simp at hx; subst hx; exact ⟨g, 0, lt, rfl, cell_of_row w g 8 _ _ _ hg, cell_of_row w g 9 _ _ _ hg, cell_of_row w g 10 _ _ _ hg, cell_of_row w g 11 _ _ _ hg, ht⟩
theorem may_three {a b : VL} (ha : mayB 63 a = true) (hb : mayB 63 b = true) : mayB 64 (vlist [a, b, a]) = true := by
  show (if (4 : Int) = 4 then ((0 : Int) == 0 && (⟨#[]⟩ : ByteArray).toList.isEmpty && decide (3 ≤ 64) && [a, b, a].all (mayB 63)) else _) = true
  rw [if_pos rfl]
  simp [ha, hb]
def DocT (l : List VL) (w : World) (e : Ending) (w' : World) : Prop := ∃ lo lc, e = .returned (.agg #[.int .i64 4, .int .i64 0, .string ⟨#[]⟩, .slice lo 3 lc, .int .i64 0]) ∧ RowRd w' 21 l (.slice lo 3 lc) ∧ Below w.heap.size w w'
theorem made_list (a b : VL) (la lb : Value) (g : Nat) (ha : RowRd w 20 a.kids la) (hb : RowRd w 20 b.kids lb) (h3 : mayB 63 a = true) (h4 : mayB 63 b = true)
    (hg : w.heap[g]? = some (.cells #[.int .i64 a.kind, .int .i64 a.num, .string a.text, la, .int .i64 b.kind, .int .i64 b.num, .string b.text, lb, .int .i64 a.kind, .int .i64 a.num, .string a.text, la] 26 (0, 0))) :
    Calls Try.prog 14 #[.slice (some ⟨g, 0, none⟩) 3 3] w (DocT [a, b, a] w) :=
  (rlist_ok w 21 [a, b, a] _ (row_three hg ha hb ha) (by simp) (by have h := deep_may 64 _ (may_three h3 h4); simpa using h)).mono fun e w' ⟨lv, he, hr, hb⟩ => by
    obtain ⟨lo, lc, rfl⟩ := hr.shape
    exact ⟨lo, lc, he, hr, hb⟩
theorem made_may (D : Nat) (a : VL) (la : Value) (h : RowRd w D a.kids la) (hm : mayB 64 a = true) : Calls Try.prog 16 #[.agg #[.int .i64 a.kind, .int .i64 a.num, .string a.text, la]] w (Made (.bool true) w) := by
  rw [← hm]; exact vMay w D a la h
theorem lis_same (D : Nat) (v : VL) (lv lg : Value) (e : Int) (hv : RowRd w D v.kids lv) (hg : RowRd w D v.kids lg) :
    Calls Try.prog 10 #[.agg #[.int .i64 v.kind, .int .i64 v.num, .string v.text, lv], .int .i64 e, .agg #[.int .i64 v.kind, .int .i64 v.num, .string v.text, lg, .int .i64 e]] w (Made (.bool true) w) := by
  have h := lis w D v v lv lg e e hv hg
  rw [sameB_refl, beq_self_eq_true] at h
  exact h
theorem lis_leaf (k n : Int) (s : ByteArray) (e : Int) :
    Calls Try.prog 10 #[.agg #[.int .i64 k, .int .i64 n, .string s, .slice none 0 0], .int .i64 e, .agg #[.int .i64 k, .int .i64 n, .string s, .slice none 0 0, .int .i64 e]] w (Made (.bool true) w) :=
  lis_same w 0 (.mk k n s []) _ _ e (RowRd.nil _ _ _ _) (RowRd.nil _ _ _ _)
theorem lis_list (D : Nat) (l : List VL) (lv lg : Value) (hv : RowRd w D l lv) (hg : RowRd w D l lg) :
    Calls Try.prog 10 #[.agg #[.int .i64 4, .int .i64 0, .string ⟨#[]⟩, lv], .int .i64 0, .agg #[.int .i64 4, .int .i64 0, .string ⟨#[]⟩, lg, .int .i64 0]] w (Made (.bool true) w) :=
  lis_same w D (vlist l) lv lg 0 hv hg
theorem may_leafs : (∀ n, mayB 64 (vnum n) = true) ∧ ∀ b, mayB 64 (vbool b) = true := by
  refine ⟨fun n => ?_, fun b => ?_⟩
  · show (if (1 : Int) = 4 then _ else leafB (vnum n)) = true
    rw [if_neg (by decide)]
    simp [leafB, vnum, VL.kind, VL.text, VL.kids]
  · show (if (3 : Int) = 4 then _ else leafB (vbool b)) = true
    rw [if_neg (by decide)]
    cases b <;> simp [leafB, vbool, VL.kind, VL.num, VL.text, VL.kids]
theorem numR_may (p : Int × Int) (h : (numR p).2 = 0) : mayB 64 (numR p).1 = true := by
  unfold numR at h ⊢
  split
  · exact may_leafs.1 _
  · rename_i hp; rw [if_neg hp] at h; exact absurd h hp
theorem twoR_may (D : Nat) (k : Int) (a b : VL) (h : (twoR D k a b).2 = 0) : mayB 64 (twoR D k a b).1 = true ∧ (twoR D k a b).1.kids = [] := by
  have key : ∀ r : VL × Int, twoR D k a b = r → ((∃ c, c ≠ 0 ∧ r = (vz, c)) ∨ (∃ c, r = (vbool c, 0)) ∨ ∃ p, r = numR p) := by
    intro r hr
    rw [← hr]
    unfold twoR
    repeat' split
    all_goals first
      | exact .inl ⟨_, by decide, rfl⟩
      | exact .inr (.inl ⟨_, rfl⟩)
      | exact .inr (.inr ⟨_, rfl⟩)
  rcases key _ rfl with ⟨c, hc, e⟩ | ⟨c, e⟩ | ⟨p, e⟩
  · rw [e] at h; exact absurd h hc
  · rw [e]; exact ⟨may_leafs.2 c, rfl⟩
  · rw [e] at h ⊢
    refine ⟨numR_may p h, ?_⟩
    unfold numR; split <;> rfl
theorem made_two_may (D : Nat) (k : Int) (a b : VL) (y : VL × Int) (hy : twoR D k a b = y) (h : y.2 = 0) :
    Calls Try.prog 16 #[.agg #[.int .i64 y.1.kind, .int .i64 y.1.num, .string y.1.text, .slice none 0 0]] w (Made (.bool true) w) := by
  rw [← hy] at h
  obtain ⟨h1, h2⟩ := twoR_may D k a b h
  rw [hy] at h1 h2
  exact made_may w 0 y.1 _ (by rw [h2]; exact RowRd.nil _ _ _ _) h1
end
end Go.Proofs.Ythlilcgjjkkajaa
