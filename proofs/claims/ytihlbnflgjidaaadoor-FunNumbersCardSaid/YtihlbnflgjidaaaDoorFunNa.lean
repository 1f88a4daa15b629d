/- The law of numbers: what its calls tell; rows turned. -/
import Derived.Test.YtihlbnflgjidaaaDoorFunK
import Derived.Test.YtihlbnflgjidaaaDoorFunLa
namespace Go.Proofs.YtihlbnflgjidaaaDoor
open Go.RowKit
set_option linter.unusedVariables false
set_option linter.unusedSimpArgs false

def turned (xs : List Int) (k : Nat) : List Int := xs.drop k ++ xs.take k
theorem turned_len (xs : List Int) (k : Nat) : (turned xs k).length = xs.length := by simp [turned]; omega
theorem turned_mem (xs : List Int) (k : Nat) (y : Int) : y ∈ turned xs k ↔ y ∈ xs := by
  have h := List.take_append_drop k xs
  unfold turned
  constructor
  · intro hy
    rw [← h]
    rcases List.mem_append.1 hy with hy | hy
    · exact List.mem_append.2 (.inr hy)
    · exact List.mem_append.2 (.inl hy)
  · intro hy
    rw [← h] at hy
    rcases List.mem_append.1 hy with hy | hy
    · exact List.mem_append.2 (.inr hy)
    · exact List.mem_append.2 (.inl hy)
theorem turned_sum (xs : List Int) (k : Nat) : (turned xs k).sum = xs.sum := by
  have h := List.take_append_drop k xs
  unfold turned
  conv => rhs; rw [← h]
  rw [List.sum_append, List.sum_append, Int.add_comm]
theorem turned_min {xs : List Int} {k : Nat} {m : Int} (h : IsMin m xs) : IsMin m (turned xs k) := ⟨(turned_mem xs k m).2 h.1, fun y hy => h.2 y ((turned_mem xs k y).1 hy)⟩
theorem turned_max {xs : List Int} {k : Nat} {m : Int} (h : IsMax m xs) : IsMax m (turned xs k) := ⟨(turned_mem xs k m).2 h.1, fun y hy => h.2 y ((turned_mem xs k y).1 hy)⟩
def In32 (xs : List Int) : Prop := ∀ x ∈ xs, -2147483648 ≤ x ∧ x ≤ 2147483647
theorem sumR_ok : ∀ (xs : List Int) (t : Int), In32 xs → xs.length ≤ 1000 → -4000000000000000 ≤ t + 2147483648 * xs.length ∧ -4000000000000000 ≤ t - 2147483648 * xs.length ∧ t + 2147483648 * xs.length ≤ 4000000000000000 → sumR t xs = (vnum (t + xs.sum), 0) := by
  intro xs
  induction xs with
  | nil => intro t _ _ _; simp [sumR]
  | cons x xs ih =>
    intro t hx hl ht
    have h1 := hx x (by simp)
    simp only [List.length_cons] at hl ht
    have hf : fitR (t + x) = (t + x, 0) := fit_in (by omega)
    show (if (fitR (t + x)).2 = 0 then sumR (t + x) xs else (vz, 8)) = _
    rw [hf, if_pos rfl, ih (t + x) (fun y hy => hx y (by simp [hy])) (by omega) (by omega)]
    simp [Int.add_assoc]
theorem same_num (D : Nat) (x o : Int) : sameB D (vnum x) (vnum o) = (x == o) := by
  cases D <;> simp [sameB, vnum, VL.kind, VL.num, VL.text, VL.kids]
theorem has_num (D : Nat) (xs : List Int) (o : Int) : hasB D (xs.map vnum) (vnum o) = xs.contains o := by
  unfold hasB
  rw [List.any_map]
  induction xs with
  | nil => rfl
  | cons x xs ih =>
    simp only [List.any_cons, List.contains_cons, Function.comp] at ih ⊢
    rw [ih, same_num]
    congr 1
    exact Bool.beq_comm
theorem has_turned (xs : List Int) (k : Nat) (o : Int) : (turned xs k).contains o = xs.contains o := by
  rw [Bool.eq_iff_iff, List.contains_iff_mem, List.contains_iff_mem, turned_mem]
section
variable (w : World)
theorem n_row {xs : List Int} {v : Value} (h : RowRd w 1 (xs.map vnum) v) (g : Nat) (hg : w.heap[g]? = some (.cells #[.int .i64 4, .int .i64 0, .string ⟨#[]⟩, v] 24 (0, 0))) :
    RowRd w 2 [vlist (xs.map vnum)] (.slice (some ⟨g, 0, none⟩) 1 1) := row_one (v := vlist (xs.map vnum)) hg h
theorem n_sum (xs : List Int) (v : Value) (h : RowRd w 1 (xs.map vnum) v) (g : Nat) (hg : w.heap[g]? = some (.cells #[.int .i64 4, .int .i64 0, .string ⟨#[]⟩, v] 24 (0, 0))) (hx : In32 xs) (hl : xs.length ≤ 40) :
    Calls Tryd.prog 26 #[.string ⟨#[115, 117, 109]⟩, .slice (some ⟨g, 0, none⟩) 1 1] w (IsTold 1 xs.sum ⟨#[]⟩ 0 w) := by
  have h1 := call_sum w 2 (vlist (xs.map vnum)) _ (n_row w h g hg) rfl (fun u hu => by
    obtain ⟨x, hx', rfl⟩ := List.mem_map.1 hu
    have := hx x hx'
    exact ⟨rfl, by unfold I64; show _ ≤ x ∧ x ≤ _; omega⟩)
  have e : (vlist (xs.map vnum)).kids.map VL.num = xs := by
    show (xs.map vnum).map VL.num = xs
    rw [List.map_map]
    exact (List.map_congr_left (fun x _ => rfl)).trans (List.map_id xs)
  rw [e, sumR_ok xs 0 hx (by omega) (by omega), Int.zero_add] at h1
  exact h1
theorem nums_of (xs : List Int) : (xs.map vnum).map VL.num = xs := by
  rw [List.map_map]
  exact (List.map_congr_left (fun x _ => rfl)).trans (List.map_id xs)
theorem n_min (xs : List Int) (v : Value) (h : RowRd w 1 (xs.map vnum) v) (h0 : 0 < xs.length) (hl : xs.length ≤ 40) (m : Int) (hm : IsMin m xs) :
    Calls Tryd.prog 26 #[.string ⟨#[109, 105, 110]⟩, v] w (IsTold 1 m ⟨#[]⟩ 0 w) :=
  call_min w 1 _ v h (by rw [List.length_map]; exact h0) (by rw [List.length_map]; omega) (fun u hu => by obtain ⟨x, -, rfl⟩ := List.mem_map.1 hu; rfl) m (by rw [nums_of]; exact hm)
theorem n_max (xs : List Int) (v : Value) (h : RowRd w 1 (xs.map vnum) v) (h0 : 0 < xs.length) (hl : xs.length ≤ 40) (m : Int) (hm : IsMax m xs) :
    Calls Tryd.prog 26 #[.string ⟨#[109, 97, 120]⟩, v] w (IsTold 1 m ⟨#[]⟩ 0 w) :=
  call_max w 1 _ v h (by rw [List.length_map]; exact h0) (by rw [List.length_map]; omega) (fun u hu => by obtain ⟨x, -, rfl⟩ := List.mem_map.1 hu; rfl) m (by rw [nums_of]; exact hm)
theorem n_len (xs : List Int) (v : Value) (h : RowRd w 1 (xs.map vnum) v) (g : Nat) (hg : w.heap[g]? = some (.cells #[.int .i64 4, .int .i64 0, .string ⟨#[]⟩, v] 24 (0, 0))) :
    Calls Tryd.prog 26 #[.string ⟨#[108, 101, 110]⟩, .slice (some ⟨g, 0, none⟩) 1 1] w (IsTold 1 xs.length ⟨#[]⟩ 0 w) := by
  have h1 := call_len w 2 (vlist (xs.map vnum)) _ (n_row w h g hg) (by show (⟨#[]⟩ : ByteArray).size ≤ _; decide) (.inr rfl)
  have e : (if (vlist (xs.map vnum)).kind = 2 then ((vlist (xs.map vnum)).text.size : Int) else ((vlist (xs.map vnum)).kids.length : Int)) = xs.length := by
    show (if (4 : Int) = 2 then _ else (((xs.map vnum).length : Nat) : Int)) = _
    rw [if_neg (by decide), List.length_map]
  rw [e] at h1
  exact h1
theorem n_has (xs : List Int) (v : Value) (o : Int) (h : RowRd w 1 (xs.map vnum) v) (g : Nat)
    (hg : w.heap[g]? = some (.cells #[.int .i64 4, .int .i64 0, .string ⟨#[]⟩, v, .int .i64 1, .int .i64 o, .string ⟨#[]⟩, .slice none 0 0] 24 (0, 0))) :
    Calls Tryd.prog 26 #[.string ⟨#[104, 97, 115]⟩, .slice (some ⟨g, 0, none⟩) 2 2] w (IsTold 3 (boolN (xs.contains o)) ⟨#[]⟩ 0 w) := by
  have hr : RowRd w 2 [vlist (xs.map vnum), vnum o] (.slice (some ⟨g, 0, none⟩) 2 2) := row_two (v := vlist (xs.map vnum)) (u := vnum o) hg h (RowRd.nil _ _ _ _)
  have h1 := call_has w 2 (vlist (xs.map vnum)) (vnum o) _ hr rfl
  have e : hasB 2 (vlist (xs.map vnum)).kids (vnum o) = xs.contains o := by
    show hasB 2 (xs.map vnum) (vnum o) = _
    exact has_num 2 xs o
  rw [e] at h1
  exact h1
end
end Go.Proofs.YtihlbnflgjidaaaDoor
