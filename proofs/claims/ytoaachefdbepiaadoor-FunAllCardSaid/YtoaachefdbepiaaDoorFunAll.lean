/- 'FunAll': for every name and all values the law of functions of any values holds; what was handed in reads as before. Conditions: none of its own; the listed package-level variables hold what the program's own text lays (tied). -/
import Derived.Test.YtoaachefdbepiaaDoorRfL
import Derived.Test.YtoaachefdbepiaaDoorValR
import Derived.Test.YtoaachefdbepiaaDoorValMa
import Derived.Lib.ItoaLen
import Derived.Test.YtoaachefdbepiaaDoorFunJ
import Derived.Test.YtoaachefdbepiaaDoorFunK
import Derived.Test.YtoaachefdbepiaaDoorValMe
import Derived.Test.YtoaachefdbepiaaDoorValN
import Derived.Test.YtoaachefdbepiaaDoorValH
import Derived.ProofKit
import Derived.ChangeSlices
import Derived.ChangeOld
import Derived.OpenShut
import Derived.ShutString
import Derived.LaidMore
import Derived.Deep.Slices
import Derived.Test.YtoaachefdbepiaaDoorCards
import Derived.Test.YtoaachefdbepiaaDoorTie
import Derived.Stop.Joined
import Derived.Lib.LaidTab
import Derived.Stop.LaidErr
import Derived.Carry
namespace Go.Proofs.YtoaachefdbepiaaDoor
open Go.RowKit
set_option linter.unusedVariables false
set_option linter.unusedSimpArgs false

theorem empty_bytes {b : ByteArray} (h : b.toList.isEmpty = true) : b = ⟨#[]⟩ := by
  obtain ⟨⟨l⟩⟩ := b
  have : (⟨⟨l⟩⟩ : ByteArray).toList = l := by simp
  rw [this] at h
  cases l with
  | nil => rfl
  | cons a t => cases h
structure Parts (v : VL) : Prop where
  kinds : v.kind = 1 ∨ v.kind = 2 ∨ v.kind = 3 ∨ v.kind = 4
  text : v.text.size ≤ 400
  other : v.kind ≠ 2 → v.text = ⟨#[]⟩
  kids : v.kids.length ≤ 64
  none : v.kind ≠ 4 → v.kids = []
theorem leaf_parts {v : VL} (h : leafB v = true) : Parts v := by
  unfold leafB at h
  split at h
  · rename_i hk
    simp only [Bool.and_eq_true, beq_iff_eq] at h
    have e := empty_bytes h.1
    exact ⟨.inl hk, by rw [e]; decide, fun _ => e, by omega, fun _ => List.eq_nil_of_length_eq_zero h.2⟩
  · split at h
    · rename_i hk
      simp only [Bool.and_eq_true, beq_iff_eq, decide_eq_true_eq] at h
      exact ⟨.inr (.inl hk), h.1.2, fun h => absurd hk h, by omega, fun _ => List.eq_nil_of_length_eq_zero h.2⟩
    · split at h
      · rename_i hk
        simp only [Bool.and_eq_true, beq_iff_eq] at h
        have e := empty_bytes h.1.2
        exact ⟨.inr (.inr (.inl hk)), by rw [e]; decide, fun _ => e, by omega, fun _ => List.eq_nil_of_length_eq_zero h.2⟩
      · cases h
theorem may_parts {d : Nat} {v : VL} (h : mayB d v = true) : Parts v := by
  cases d with
  | zero => exact leaf_parts h
  | succ d =>
    unfold mayB at h
    split at h
    · rename_i hk
      simp only [Bool.and_eq_true, decide_eq_true_eq, beq_iff_eq] at h
      have e := empty_bytes h.1.1.2
      exact ⟨.inr (.inr (.inr hk)), by rw [e]; decide, fun _ => e, h.1.2, fun n => absurd hk n⟩
    · exact leaf_parts h
/-- An argument that may be. -/
structure ArgOK (v : VL) : Prop where
  may : mayB 64 v = true
  num : I64 v.num
  nums : ∀ u ∈ v.kids, I64 u.num
theorem may_list (d : Nat) (l : List VL) : mayB (d + 1) (vlist l) = (decide (l.length ≤ 64) && l.all (mayB d)) := by
  show (if (4 : Int) = 4 then (0 : Int) == 0 && (⟨#[]⟩ : ByteArray).toList.isEmpty && decide (l.length ≤ 64) && l.all (mayB d) else _) = _
  rw [if_pos rfl, empty_text]; simp
theorem may_cat {l : List VL} (h : ∀ v ∈ l, ArgOK v) (hl : (catV l).length ≤ 64) : mayB 64 (vlist (catV l)) = true := by
  rw [may_list, decide_eq_true hl]
  simp only [Bool.true_and, List.all_eq_true]
  intro u hu
  obtain ⟨v, hv, huv⟩ := List.mem_flatMap.1 hu
  exact (may_kids (h v hv).may).2 u huv
theorem may_str {s : ByteArray} (h : s.size ≤ 400) : mayB 64 (vstr s) = true := by
  show (if (2 : Int) = 4 then _ else leafB (vstr s)) = true
  rw [if_neg (by decide)]
  simp [leafB, vstr, VL.kind, VL.num, VL.text, VL.kids, h]
theorem may_bool (b : Bool) : mayB 64 (vbool b) = true := by
  show (if (3 : Int) = 4 then _ else leafB (vbool b)) = true
  rw [if_neg (by decide)]
  cases b <;> simp [leafB, vbool, boolN, VL.kind, VL.num, VL.text, VL.kids]
theorem fit_many {k : Int} {l : List VL} (h : fitAllB [k] l = true) : ∀ v ∈ l, fitsB k v = true := by
  intro v hv
  obtain ⟨i, hi, rfl⟩ := List.mem_iff_getElem.1 hv
  unfold fitAllB at h
  rw [List.all_eq_true] at h
  have := h i (List.mem_range.2 hi)
  rw [List.getD_eq_getElem?_getD, List.getElem?_eq_getElem hi] at this
  simpa [kindAt] using this
theorem fit_two {k j : Int} {a b : VL} (h : fitAllB [k, j] [a, b] = true) : fitsB k a = true ∧ fitsB j b = true := by
  unfold fitAllB at h
  rw [List.all_eq_true] at h
  exact ⟨by simpa [kindAt] using h 0 (by simp), by simpa [kindAt] using h 1 (by simp)⟩
theorem fits1 {v : VL} (h : fitsB 1 v = true) : v.kind = 1 := by simpa [fitsB] using h
theorem fits2 {v : VL} (h : fitsB 2 v = true) : v.kind = 2 := by simpa [fitsB] using h
theorem fits3 {v : VL} (h : fitsB 3 v = true) : v.kind = 4 := by simpa [fitsB] using h
theorem fits4 {v : VL} (h : fitsB 4 v = true) : v.kind = 4 ∧ ∀ u ∈ v.kids, u.kind = 1 := by
  simp only [fitsB, allB] at h
  simpa using h
theorem fits5 {v : VL} (h : fitsB 5 v = true) : v.kind = 4 ∧ allB 2 v.kids = true := by
  simp only [fitsB] at h
  simpa using h
theorem fits6 {v : VL} (h : fitsB 6 v = true) : v.kind = 4 ∨ v.kind = 2 := by
  simpa [fitsB] using h
theorem isMin_ex : ∀ (xs : List Int), 0 < xs.length → ∃ m, IsMin m xs := by
  intro xs
  induction xs with
  | nil => intro h; simp at h
  | cons x t ih =>
    intro _
    cases t with
    | nil => exact ⟨x, by simp [IsMin]⟩
    | cons y t =>
      obtain ⟨m, hm, hl⟩ := ih (by simp)
      by_cases h : x < m
      · exact ⟨x, by simp, fun z hz => by
          rcases List.mem_cons.1 hz with rfl | hz
          · omega
          · have := hl z hz; omega⟩
      · exact ⟨m, List.mem_cons_of_mem _ hm, fun z hz => by
          rcases List.mem_cons.1 hz with rfl | hz
          · omega
          · exact hl z hz⟩
theorem isMax_ex : ∀ (xs : List Int), 0 < xs.length → ∃ m, IsMax m xs := by
  intro xs
  induction xs with
  | nil => intro h; simp at h
  | cons x t ih =>
    intro _
    cases t with
    | nil => exact ⟨x, by simp [IsMax]⟩
    | cons y t =>
      obtain ⟨m, hm, hl⟩ := ih (by simp)
      by_cases h : m < x
      · exact ⟨x, by simp, fun z hz => by
          rcases List.mem_cons.1 hz with rfl | hz
          · omega
          · have := hl z hz; omega⟩
      · exact ⟨m, List.mem_cons_of_mem _ hm, fun z hz => by
          rcases List.mem_cons.1 hz with rfl | hz
          · omega
          · exact hl z hz⟩
theorem sum_may : ∀ (xs : List Int) (t : Int), (sumR t xs).1.kids = [] ∧ ((sumR t xs).2 = 0 → mayB 64 (sumR t xs).1 = true) := by
  intro xs
  induction xs with
  | nil => intro t; exact ⟨rfl, fun _ => may_num 64 t⟩
  | cons x xs ih =>
    intro t
    unfold sumR
    split
    · exact ih _
    · exact ⟨rfl, fun h => absurd h (by decide)⟩
theorem join_may (xs : List ByteArray) : (joinR xs).1.kids = [] ∧ ((joinR xs).2 = 0 → mayB 64 (joinR xs).1 = true) := by
  unfold joinR
  split
  · rename_i h
    exact ⟨rfl, fun _ => may_str (by rw [catB_size]; exact h)⟩
  · exact ⟨rfl, fun h => absurd h (by decide)⟩
theorem abs_may (n : Int) : (absR n).1.kids = [] ∧ ((absR n).2 = 0 → mayB 64 (absR n).1 = true) := by
  unfold absR
  split
  · unfold numR
    split
    · exact ⟨rfl, fun _ => may_num 64 _⟩
    · rename_i h
      exact ⟨rfl, fun e => absurd e h⟩
  · exact ⟨rfl, fun _ => may_num 64 _⟩
theorem text_size {v : VL} (hp : Parts v) (hi : I64 v.num) : (textT v).1.size ≤ 400 := by
  unfold textT
  split
  · have h := Lib.itoa_length_le v.num hi.1 hi.2
    have e : (itoaB v.num).size = (Lib.itoa v.num).length := by simp [itoaB, ByteArray.size]
    show (itoaB v.num).size ≤ 400
    omega
  · split
    · exact hp.text
    · split
      · show (boolT (v.num == 1)).size ≤ 400
        rcases bool_bytes with ⟨h1, h2⟩
        cases v.num == 1
        · rw [h2]; decide
        · rw [h1]; decide
      · decide
theorem text_may {s : ByteArray} (h : s.size ≤ 400) (c : Int) : (textR s c).1.kids = [] ∧ ((textR s c).2 = 0 → mayB 64 (textR s c).1 = true) := by
  unfold textR
  split
  · exact ⟨rfl, fun _ => may_str h⟩
  · rename_i h2
    exact ⟨rfl, fun e => absurd e h2⟩
end Go.Proofs.YtoaachefdbepiaaDoor
namespace Go.Proofs.YtoaachefdbepiaaDoor
open Go.RowKit
set_option linter.unusedVariables false
set_option linter.unusedSimpArgs false

/-- Both answer this. -/
def Alike (s : ByteArray) (lv : Value) (w : World) : Prop :=
  ∃ (D : Nat) (r : VL × Int), (∀ W, Below w.heap.size w W → Calls Tryd.prog 7 #[.string s, lv] W (Tells D r W)) ∧ (∀ W, Below w.heap.size w W → Calls Tryd.prog 8 #[.string s, lv] W (DocR D r W)) ∧ (r.2 = 0 → mayB 64 r.1 = true)
section
variable (w : World)
theorem alike_of {s : ByteArray} {lv : Value} (r : VL × Int) (hk : r.1.kids = []) (hf : ∀ W, Below w.heap.size w W → Calls Tryd.prog 7 #[.string s, lv] W (Told r W))
    (hd : ∀ W, Below w.heap.size w W → Calls Tryd.prog 8 #[.string s, lv] W (Doc r W)) (hm : r.2 = 0 → mayB 64 r.1 = true) : Alike s lv w :=
  ⟨0, r, fun W hW => (hf W hW).mono fun e w' h => ⟨_, h.1, by rw [hk]; exact RowRd.nil _ _ _ _, h.2⟩, fun W hW => (hd W hW).mono fun e w' h => doc_nil h hk, hm⟩
theorem alike_name {s : ByteArray} {ks : List Int} {more : Bool} {F : FuncId} (hN : ∀ W, Calls Tryd.prog 15 #[.string s] W (Named ks more F W)) (hk : Takes ks) (D : Nat) (l : List VL) (lv : Value) (h : RowRd w D l lv)
    (h1 : checkR ks more l = 1 → ∀ W, Below w.heap.size w W → Calls Tryd.prog 8 #[.string s, lv] W (Doc (vz, 1) W))
    (h7 : ¬ (l.length < ks.length ∨ (ks.length < l.length ∧ more = false)) → fitAllB ks l = false → ∀ W, Below w.heap.size w W → Calls Tryd.prog 8 #[.string s, lv] W (Doc (vz, 7) W))
    (hg : ¬ (l.length < ks.length ∨ (ks.length < l.length ∧ more = false)) → fitAllB ks l = true → checkR ks more l = 0 → Alike s lv w) : Alike s lv w := by
  by_cases ha : l.length < ks.length ∨ (ks.length < l.length ∧ more = false)
  · have hc : checkR ks more l = 1 := if_pos ha
    exact alike_of w (vz, 1) rfl (fun W hW => call_bad W s ks more F hN hk D l lv (h.below hW) 1 hc (by decide)) (h1 hc) (fun e => absurd e (by decide))
  · cases hb : fitAllB ks l
    · have hc : checkR ks more l = 7 := by unfold checkR; rw [if_neg ha, hb]; rfl
      exact alike_of w (vz, 7) rfl (fun W hW => call_bad W s ks more F hN hk D l lv (h.below hW) 7 hc (by decide)) (h7 ha hb) (fun e => absurd e (by decide))
    · exact hg ha hb (by unfold checkR; rw [if_neg ha, hb]; rfl)
theorem run_join (a : Array Value) (W : World) : (callFunc 35 a).run Tryd.prog W = .ok (.enter 35 a) W := run_enter Tryd.func35 (by kernel_rfl) (by kernel_rfl) a W
theorem run_concat (a : Array Value) (W : World) : (callFunc 34 a).run Tryd.prog W = .ok (.enter 34 a) W := run_enter Tryd.func34 (by kernel_rfl) (by kernel_rfl) a W
theorem run_count (a : Array Value) (W : World) : (callFunc 36 a).run Tryd.prog W = .ok (.enter 36 a) W := run_enter Tryd.func36 (by kernel_rfl) (by kernel_rfl) a W
theorem alike_none (s : ByteArray) (hs : noName s) (lao : Option Addr) (ln lcap : Nat) : Alike s (.slice lao ln lcap) w :=
  alike_of w (vz, 2) rfl (fun W hW => call_none W s hs lao ln lcap) (fun W hW => rcall_none W s hs lao ln lcap) (fun e => absurd e (by decide))

theorem arg_many {l : List VL} {ks : List Int} {p : Prop} (ha : ¬ (l.length < ks.length ∨ p)) : ks.length ≤ l.length := Nat.not_lt.1 fun h => ha (.inl h)
theorem arg_one {l : List VL} {ks : List Int} (ha : ¬ (l.length < ks.length ∨ (ks.length < l.length ∧ false = false))) : l.length = ks.length :=
  Nat.le_antisymm (Nat.not_lt.1 fun h => ha (.inr ⟨h, rfl⟩)) (arg_many ha)
theorem len_one : ∀ {l : List VL} (h : l.length = 1), ∃ v, l = [v] := by
  intro l h
  match l, h with
  | [], h => simp at h
  | [v], _ => exact ⟨v, rfl⟩
  | _ :: _ :: _, h => simp at h
theorem len_two : ∀ {l : List VL} (h : l.length = 2), ∃ a b, l = [a, b] := by
  intro l h
  match l, h with
  | [], h => simp at h
  | [_], h => simp at h
  | [a, b], _ => exact ⟨a, b, rfl⟩
  | _ :: _ :: _ :: _, h => simp at h
theorem alike_min (D : Nat) (l : List VL) (lv : Value) (h : RowRd w D l lv) (hl : l.length ≤ 100) (hA : ∀ v ∈ l, ArgOK v) : Alike ⟨#[109, 105, 110]⟩ lv w := by
  have hkl : ∀ x ∈ l, x.kids.length ≤ 1000 := fun x hx => by have := (may_parts (hA x hx).may).kids; omega
  have hnk : ∀ x ∈ l, x.kind ≠ 4 → x.kids = [] := fun x hx => (may_parts (hA x hx).may).none
  obtain ⟨lao, lcap, rfl⟩ := h.shape
  refine alike_name w fnamed_min (takes_one 1 (by omega)) D l _ h (fun hc W hW => rcall_arg_min W l lao lcap (by omega) hc) (fun ha hf W hW => rcall_type_min W D l _ (h.below hW) (by omega) hkl hnk (arg_many ha) hf) fun ha hf hc => ?_
  have hk := fun v hv => fits1 (fit_many hf v hv)
  have h0 : 0 < l.length := arg_many ha
  obtain ⟨m, hm⟩ := isMin_ex (l.map VL.num) (by rw [List.length_map]; exact h0)
  exact alike_of w (vnum m, 0) rfl (fun W hW => call_min W D l _ (h.below hW) h0 (by omega) hk m hm) (fun W hW => rcall_min W D l _ (h.below hW) hkl hnk hf h0 (by omega) m hm) (fun _ => may_num 64 m)
theorem alike_max (D : Nat) (l : List VL) (lv : Value) (h : RowRd w D l lv) (hl : l.length ≤ 100) (hA : ∀ v ∈ l, ArgOK v) : Alike ⟨#[109, 97, 120]⟩ lv w := by
  have hkl : ∀ x ∈ l, x.kids.length ≤ 1000 := fun x hx => by have := (may_parts (hA x hx).may).kids; omega
  have hnk : ∀ x ∈ l, x.kind ≠ 4 → x.kids = [] := fun x hx => (may_parts (hA x hx).may).none
  obtain ⟨lao, lcap, rfl⟩ := h.shape
  refine alike_name w fnamed_max (takes_one 1 (by omega)) D l _ h (fun hc W hW => rcall_arg_max W l lao lcap (by omega) hc) (fun ha hf W hW => rcall_type_max W D l _ (h.below hW) (by omega) hkl hnk (arg_many ha) hf) fun ha hf hc => ?_
  have hk := fun v hv => fits1 (fit_many hf v hv)
  have h0 : 0 < l.length := arg_many ha
  obtain ⟨m, hm⟩ := isMax_ex (l.map VL.num) (by rw [List.length_map]; exact h0)
  exact alike_of w (vnum m, 0) rfl (fun W hW => call_max W D l _ (h.below hW) h0 (by omega) hk m hm) (fun W hW => rcall_max W D l _ (h.below hW) hkl hnk hf h0 (by omega) m hm) (fun _ => may_num 64 m)
theorem alike_sum (D : Nat) (l : List VL) (lv : Value) (h : RowRd w D l lv) (hl : l.length ≤ 100) (hA : ∀ v ∈ l, ArgOK v) : Alike ⟨#[115, 117, 109]⟩ lv w := by
  have hkl : ∀ x ∈ l, x.kids.length ≤ 1000 := fun x hx => by have := (may_parts (hA x hx).may).kids; omega
  have hnk : ∀ x ∈ l, x.kind ≠ 4 → x.kids = [] := fun x hx => (may_parts (hA x hx).may).none
  obtain ⟨lao, lcap, rfl⟩ := h.shape
  refine alike_name w fnamed_sum (takes_one 4 (by omega)) D l _ h (fun hc W hW => rcall_arg_sum W l lao lcap (by omega) hc) (fun ha hf W hW => rcall_type_sum W D l _ (h.below hW) (by omega) hkl hnk (⟨Nat.le_of_eq (arg_one ha).symm, Nat.le_of_eq (arg_one ha)⟩) hf) fun ha hf hc => ?_
  obtain ⟨v, rfl⟩ := len_one (arg_one ha)
  have hp := hA v (by simp)
  obtain ⟨h4, hk⟩ := fits4 (fit_many hf v (by simp))
  exact alike_of w _ (sum_may _ _).1 (fun W hW => call_sum W D v _ (h.below hW) h4 (fun u hu => ⟨hk u hu, hp.nums u hu⟩)) (fun W hW => rcall_sum W D v _ (h.below hW) hkl hnk hf hp.nums) (sum_may _ _).2
theorem alike_len (D : Nat) (l : List VL) (lv : Value) (h : RowRd w D l lv) (hl : l.length ≤ 100) (hA : ∀ v ∈ l, ArgOK v) : Alike ⟨#[108, 101, 110]⟩ lv w := by
  have hkl : ∀ x ∈ l, x.kids.length ≤ 1000 := fun x hx => by have := (may_parts (hA x hx).may).kids; omega
  have hnk : ∀ x ∈ l, x.kind ≠ 4 → x.kids = [] := fun x hx => (may_parts (hA x hx).may).none
  obtain ⟨lao, lcap, rfl⟩ := h.shape
  refine alike_name w fnamed_len (takes_one 6 (by omega)) D l _ h (fun hc W hW => rcall_arg_len W l lao lcap (by omega) hc) (fun ha hf W hW => rcall_type_len W D l _ (h.below hW) (by omega) hkl hnk (⟨Nat.le_of_eq (arg_one ha).symm, Nat.le_of_eq (arg_one ha)⟩) hf) fun ha hf hc => ?_
  obtain ⟨v, rfl⟩ := len_one (arg_one ha)
  have hp := may_parts (hA v (by simp)).may
  have h6 := fits6 (fit_many hf v (by simp))
  have e : (if v.kind = 2 then (v.text.size : Int) else (v.kids.length : Int)) = (v.kids.length : Int) + (v.text.size : Int) := by
    by_cases h2 : v.kind = 2
    · rw [if_pos h2, hp.none (by omega)]; simp
    · have z : (⟨#[]⟩ : ByteArray).size = 0 := rfl
      rw [if_neg h2, hp.other h2, z]; simp
  have ht := hp.text
  exact alike_of w (vnum ((v.kids.length : Int) + (v.text.size : Int)), 0) rfl (fun W hW => by have := call_len W D v _ (h.below hW) (by omega) h6.symm; rw [e] at this; exact this) (fun W hW => rcall_len W D v _ (h.below hW) hkl hnk hf (by omega)) (fun _ => may_num 64 _)
theorem alike_concat (D : Nat) (l : List VL) (lv : Value) (h : RowRd w D l lv) (hl : l.length ≤ 100) (hA : ∀ v ∈ l, ArgOK v) : Alike ⟨#[99, 111, 110, 99, 97, 116]⟩ lv w := by
  have hkl : ∀ x ∈ l, x.kids.length ≤ 1000 := fun x hx => by have := (may_parts (hA x hx).may).kids; omega
  have hnk : ∀ x ∈ l, x.kind ≠ 4 → x.kids = [] := fun x hx => (may_parts (hA x hx).may).none
  obtain ⟨lao, lcap, rfl⟩ := h.shape
  refine alike_name w fnamed_concat (takes_one 3 (by omega)) D l _ h (fun hc W hW => rcall_arg_concat W l lao lcap (by omega) hc) (fun ha hf W hW => rcall_type_concat W D l _ (h.below hW) (by omega) hkl hnk (arg_many ha) hf) fun ha hf hc => ?_
  have hk := fun v hv => fits3 (fit_many hf v hv)
  have h0 : 0 < l.length := arg_many ha
  by_cases h64 : (catV l).length ≤ 64
  · have hm := may_cat hA h64
    have e : D - 1 - 1 + 1 - 1 + 1 = D - 1 - 1 + 1 := by omega
    exact ⟨D - 1 - 1 + 1, (vlist (catV l), 0), (fun W hW => (call_gives W _ [3] true 34 fnamed_concat (takes_one 3 (by omega)) D l _ (h.below hW) hc _ _ _ _ _ run_concat fun V hV =>
        (fconcat V D l _ ((h.below hW).below hV) (by omega) (fun v hv => hkl v hv)).mono fun e w' hh => hh.1 hm).mono fun e w' hg => tells_gives (u := vlist (catV l)) hg),
      (fun W hW => (rcall_concat W D l _ (h.below hW) hkl hnk hf h0 (by omega) (by omega) (fun _ => deep_may 64 _ hm)).mono fun e' w' hh => by rw [e] at hh; exact hh.1 h64), (fun _ => hm)⟩
  · have hb : mayB 64 (vlist (catV l)) = false := may_long (by omega)
    exact alike_of w (vz, 4) rfl (fun W hW => call_told W _ [3] true 34 fnamed_concat (takes_one 3 (by omega)) D l _ (h.below hW) hc _ _ _ _ run_concat fun V hV =>
        (fconcat V D l _ ((h.below hW).below hV) (by omega) (fun v hv => hkl v hv)).mono fun e w' hh => hh.2 hb)
      (fun W hW => (rcall_concat W D l _ (h.below hW) hkl hnk hf h0 (by omega) (by omega) (fun e => absurd e h64)).mono fun e w' hh => hh.2 (by omega)) (fun e => absurd e (by decide))
theorem alike_join (D : Nat) (l : List VL) (lv : Value) (h : RowRd w D l lv) (hl : l.length ≤ 100) (hA : ∀ v ∈ l, ArgOK v) : Alike ⟨#[106, 111, 105, 110]⟩ lv w := by
  have hkl : ∀ x ∈ l, x.kids.length ≤ 1000 := fun x hx => by have := (may_parts (hA x hx).may).kids; omega
  have hnk : ∀ x ∈ l, x.kind ≠ 4 → x.kids = [] := fun x hx => (may_parts (hA x hx).may).none
  obtain ⟨lao, lcap, rfl⟩ := h.shape
  refine alike_name w fnamed_join (takes_two 2 5 (by omega) (by omega)) D l _ h (fun hc W hW => rcall_arg_join W l lao lcap (by omega) hc) (fun ha hf W hW => rcall_type_join W D l _ (h.below hW) (by omega) hkl hnk (⟨Nat.le_of_eq (arg_one ha).symm, Nat.le_of_eq (arg_one ha)⟩) hf) fun ha hf hc => ?_
  obtain ⟨a, b, rfl⟩ := len_two (arg_one ha)
  have hp := may_parts (hA a (by simp)).may
  have hs : ∀ v ∈ b.kids, v.text.size ≤ 1000 := fun v hv => by
    have := (may_parts ((may_kids (hA b (by simp)).may).2 v hv)).text
    omega
  have ht := hp.text
  exact alike_of w _ (join_may _).1 (fun W hW => call_told W _ [2, 5] false 35 fnamed_join (takes_two 2 5 (by omega) (by omega)) D [a, b] _ (h.below hW) hc _ _ _ _ run_join fun V hV => fjoin V D a b _ ((h.below hW).below hV) (hkl b (by simp)) (by omega) hs)
    (fun W hW => rcall_join W D a b _ (h.below hW) hkl hnk hf (by omega) hs) (join_may _).2
theorem alike_range (D : Nat) (l : List VL) (lv : Value) (h : RowRd w D l lv) (hl : l.length ≤ 100) (hA : ∀ v ∈ l, ArgOK v) : Alike ⟨#[114, 97, 110, 103, 101]⟩ lv w := by
  have hkl : ∀ x ∈ l, x.kids.length ≤ 1000 := fun x hx => by have := (may_parts (hA x hx).may).kids; omega
  have hnk : ∀ x ∈ l, x.kind ≠ 4 → x.kids = [] := fun x hx => (may_parts (hA x hx).may).none
  obtain ⟨lao, lcap, rfl⟩ := h.shape
  refine alike_name w fnamed_range (takes_one 1 (by omega)) D l _ h (fun hc W hW => rcall_arg_range W l lao lcap (by omega) hc) (fun ha hf W hW => rcall_type_range W D l _ (h.below hW) (by omega) hkl hnk (⟨Nat.le_of_eq (arg_one ha).symm, Nat.le_of_eq (arg_one ha)⟩) hf) fun ha hf hc => ?_
  obtain ⟨v, rfl⟩ := len_one (arg_one ha)
  have hk := fits1 (fit_many hf v (by simp))
  have hi := (hA v (by simp)).num
  by_cases hb : v.num < 0 ∨ 64 < v.num
  · exact alike_of w (vz, if v.num < 0 then 1 else 4) rfl (fun W hW => call_told W _ [1] false 36 fnamed_range (takes_one 1 (by omega)) D [v] _ (h.below hW) hc _ _ _ _ run_count fun V hV => fcount_bad V D v _ ((h.below hW).below hV) hb)
      (fun W hW => rcall_range_bad W D v _ (h.below hW) hkl hnk hf hi hb _ rfl) (fun e => by exfalso; revert e; show (if v.num < 0 then (1 : Int) else 4) = 0 → False; split <;> decide)
  · obtain ⟨n, hn⟩ : ∃ n : Nat, v.num = (n : Int) := ⟨v.num.toNat, by omega⟩
    have h64 : n ≤ 64 := by omega
    exact ⟨1, (vlist ((upTo n).map vnum), 0), fun W hW => (call_gives W _ [1] false 36 fnamed_range (takes_one 1 (by omega)) D [v] _ (h.below hW) hc _ _ _ _ _ run_count fun V hV => fcount_ok V D v _ ((h.below hW).below hV) n hn h64).mono fun e w' hg => tells_gives (u := vlist ((upTo n).map vnum)) hg,
      fun W hW => rcall_range_ok W D v _ (h.below hW) hkl hnk hf n hn h64, fun _ => may_nums (by rw [upTo_len]; exact h64)⟩
theorem alike_abs (D : Nat) (l : List VL) (lv : Value) (h : RowRd w D l lv) (hl : l.length ≤ 100) (hA : ∀ v ∈ l, ArgOK v) : Alike ⟨#[97, 98, 115]⟩ lv w := by
  have hkl : ∀ x ∈ l, x.kids.length ≤ 1000 := fun x hx => by have := (may_parts (hA x hx).may).kids; omega
  have hnk : ∀ x ∈ l, x.kind ≠ 4 → x.kids = [] := fun x hx => (may_parts (hA x hx).may).none
  obtain ⟨lao, lcap, rfl⟩ := h.shape
  refine alike_name w fnamed_abs (takes_one 1 (by omega)) D l _ h (fun hc W hW => rcall_arg_abs W l lao lcap (by omega) hc) (fun ha hf W hW => rcall_type_abs W D l _ (h.below hW) (by omega) hkl hnk (⟨Nat.le_of_eq (arg_one ha).symm, Nat.le_of_eq (arg_one ha)⟩) hf) fun ha hf hc => ?_
  obtain ⟨v, rfl⟩ := len_one (arg_one ha)
  have hk := fits1 (fit_many hf v (by simp))
  have hi := (hA v (by simp)).num
  exact alike_of w _ (abs_may _).1 (fun W hW => call_abs W D v _ (h.below hW) hk hi) (fun W hW => rcall_abs W D v _ (h.below hW) hkl hnk hf hi) (abs_may _).2
theorem alike_has (D : Nat) (l : List VL) (lv : Value) (h : RowRd w D l lv) (hl : l.length ≤ 100) (hA : ∀ v ∈ l, ArgOK v) : Alike ⟨#[104, 97, 115]⟩ lv w := by
  have hkl : ∀ x ∈ l, x.kids.length ≤ 1000 := fun x hx => by have := (may_parts (hA x hx).may).kids; omega
  have hnk : ∀ x ∈ l, x.kind ≠ 4 → x.kids = [] := fun x hx => (may_parts (hA x hx).may).none
  obtain ⟨lao, lcap, rfl⟩ := h.shape
  refine alike_name w fnamed_has (takes_two 3 0 (by omega) (by omega)) D l _ h (fun hc W hW => rcall_arg_has W l lao lcap (by omega) hc) (fun ha hf W hW => rcall_type_has W D l _ (h.below hW) (by omega) hkl hnk (⟨Nat.le_of_eq (arg_one ha).symm, Nat.le_of_eq (arg_one ha)⟩) hf) fun ha hf hc => ?_
  obtain ⟨a, b, rfl⟩ := len_two (arg_one ha)
  have h4 := fits3 (fit_two hf).1
  exact alike_of w (vbool (hasB D a.kids b), 0) rfl (fun W hW => call_has W D a b _ (h.below hW) h4) (fun W hW => rcall_has W D a b _ (h.below hW) hkl hnk hf) (fun _ => may_bool _)
theorem alike_text (D : Nat) (l : List VL) (lv : Value) (h : RowRd w D l lv) (hl : l.length ≤ 100) (hA : ∀ v ∈ l, ArgOK v) (ht : TabOK w) : Alike ⟨#[116, 101, 120, 116]⟩ lv w := by
  have hkl : ∀ x ∈ l, x.kids.length ≤ 1000 := fun x hx => by have := (may_parts (hA x hx).may).kids; omega
  have hnk : ∀ x ∈ l, x.kind ≠ 4 → x.kids = [] := fun x hx => (may_parts (hA x hx).may).none
  obtain ⟨lao, lcap, rfl⟩ := h.shape
  refine alike_name w fnamed_text (takes_one 0 (by omega)) D l _ h (fun hc W hW => rcall_arg_text W l lao lcap (by omega) hc) (fun ha hf W hW => rcall_type_text W D l _ (h.below hW) (by omega) hkl hnk (⟨Nat.le_of_eq (arg_one ha).symm, Nat.le_of_eq (arg_one ha)⟩) hf) fun ha hf hc => ?_
  obtain ⟨v, rfl⟩ := len_one (arg_one ha)
  have hi := (hA v (by simp)).num
  have hp := may_parts (hA v (by simp)).may
  have hs := text_size hp hi
  exact alike_of w _ (text_may hs _).1 (fun W hW => call_textB W D v _ (h.below hW) hi hp.kinds (ht.below hW)) (fun W hW => rcall_text W D v _ (h.below hW) hkl hnk hf hi hp.kinds hs) (text_may hs _).2
end
end Go.Proofs.YtoaachefdbepiaaDoor
namespace Go.Proofs.YtoaachefdbepiaaDoor
open Go.RowKit
set_option linter.unusedVariables false
set_option linter.unusedSimpArgs false

/-- A list's own fields are as they should be, or a value's that is none. -/
def HeadP (v : VL) : Prop := (v.kind = 4 ∧ v.num = 0 ∧ v.text.toList.isEmpty = true ∧ v.kids.length ≤ 64) ∨ leafB v = true
def FieldsP : Nat → VL → Prop
  | 0, v => HeadP v ∧ v.kids = []
  | D + 1, v => HeadP v ∧ (v.kind = 4 → ∀ u ∈ v.kids, FieldsP D u)
theorem fold_max_mem (l : List Int) : ∀ (a x : Int), x ∈ l → x ≤ l.foldl max a := by
  induction l with
  | nil => intro a x h; cases h
  | cons y l ih =>
    intro a x h
    rcases List.mem_cons.1 h with rfl | h
    · exact Int.le_trans (by omega) (fold_max_ge l (max a x))
    · exact ih _ _ h
theorem fields_may : ∀ (d D : Nat) (v : VL), deepI d v ≤ d → FieldsP D v → mayB d v = true := by
  intro d
  induction d with
  | zero =>
    intro D v hd hf
    have hh : HeadP v := by cases D with
      | zero => exact hf.1
      | succ D => exact hf.1
    rcases hh with ⟨h4, -⟩ | h
    · unfold deepI at hd; rw [if_pos h4] at hd; omega
    · exact h
  | succ d ih =>
    intro D v hd hf
    have hh : HeadP v := by cases D with
      | zero => exact hf.1
      | succ D => exact hf.1
    rcases hh with ⟨h4, h1, h2, h3⟩ | h
    · unfold mayB
      rw [if_pos h4]
      have hk : v.kids.all (mayB d) = true := by
        rw [List.all_eq_true]
        intro u hu
        cases D with
        | zero => have h0 : v.kids = [] := hf.2; rw [h0] at hu; cases hu
        | succ D =>
          refine ih D u ?_ (hf.2 h4 u hu)
          unfold deepI at hd
          rw [if_pos h4] at hd
          have : deepI d u ≤ (v.kids.map (deepI d)).foldl max 0 := fold_max_mem _ _ _ (List.mem_map_of_mem hu)
          omega
      rw [hk, h1, h2, decide_eq_true h3]; rfl
    · have h4 : ¬ v.kind = 4 := fun e => by rw [leaf_list e] at h; cases h
      unfold mayB; rw [if_neg h4]; exact h
section
variable (w : World)
set_option maxRecDepth 20000
set_option maxHeartbeats 4000000 in
theorem fields_leafG (v : VL) (lao : Option Addr) (lcap : Nat) (hk : ¬ v.kind = 4) :
    Calls Tryd.prog 14 #[.agg #[.int .i64 v.kind, .int .i64 v.num, .string v.text, .slice lao v.kids.length lcap]] w (Made (.bool (leafB v)) w) := by
  have g4 : (v.kind == 4) = false := by simpa using hk
  by_cases h1 : v.kind = 1
  · have g1 : (v.kind == 1) = true := by simpa using h1
    rw [show leafB v = (v.text.toList.isEmpty && ((v.kids.length : Int) == 0)) by rw [← len_zero]; exact if_pos h1]
    clear h1 hk
    cases e1 : v.text.toList.isEmpty <;> cases e2 : ((v.kids.length : Int) == 0)
    all_goals
      go_enter Tryd.func14, Tryd.ntmps14
      go_wp2_with fail
      go_ret
      exact ⟨rfl, below_al (Below.refl _ _) _⟩
  · have g1 : (v.kind == 1) = false := by simpa using h1
    by_cases h2 : v.kind = 2
    · have g2 : (v.kind == 2) = true := by simpa using h2
      rw [show leafB v = (v.num == 0 && decide (v.text.size ≤ 400) && ((v.kids.length : Int) == 0)) by rw [← len_zero]; unfold leafB; rw [if_neg h1, if_pos h2]]
      clear h1 h2 hk
      cases e1 : (v.num == 0)
      · go_enter Tryd.func14, Tryd.ntmps14
        go_wp2_with fail
        go_ret
        exact ⟨rfl, below_al (Below.refl _ _) _⟩
      · by_cases h3 : v.text.size ≤ 400
        · rw [show decide (v.text.size ≤ 400) = true from decide_eq_true h3]
          have h5 : (v.text.size : Int) ≤ 400 := by omega
          cases e2 : ((v.kids.length : Int) == 0)
          all_goals
            go_enter Tryd.func14, Tryd.ntmps14
            go_wp2_with fail
            go_ret
            exact ⟨rfl, below_al (Below.refl _ _) _⟩
        · rw [show decide (v.text.size ≤ 400) = false from decide_eq_false h3]
          have h3' : ¬ (v.text.size : Int) ≤ 400 := by omega
          clear h3
          cases e2 : ((v.kids.length : Int) == 0)
          all_goals
            go_enter Tryd.func14, Tryd.ntmps14
            go_wp2_with fail
            go_ret
            exact ⟨rfl, below_al (Below.refl _ _) _⟩
    · have g2 : (v.kind == 2) = false := by simpa using h2
      by_cases h3 : v.kind = 3
      · have g3 : (v.kind == 3) = true := by simpa using h3
        rw [show leafB v = ((v.num == 0 || v.num == 1) && v.text.toList.isEmpty && ((v.kids.length : Int) == 0)) by rw [← len_zero]; unfold leafB; rw [if_neg h1, if_neg h2, if_pos h3]]
        clear h1 h2 h3 hk
        cases e1 : (v.num == 0) <;> cases e2 : (v.num == 1) <;> cases e3 : v.text.toList.isEmpty <;> cases e4 : ((v.kids.length : Int) == 0)
        all_goals
          go_enter Tryd.func14, Tryd.ntmps14
          go_wp2_with fail
          go_ret
          exact ⟨rfl, below_al (Below.refl _ _) _⟩
      · have g3 : (v.kind == 3) = false := by simpa using h3
        rw [show leafB v = false by unfold leafB; rw [if_neg h1, if_neg h2, if_neg h3]]
        clear h1 h2 h3 hk
        go_enter Tryd.func14, Tryd.ntmps14
        go_wp2_with fail
        go_ret
        exact ⟨rfl, below_al (Below.refl _ _) _⟩
/-- What fields tells of any value. -/
def FieldsT (D : Nat) (v : VL) (w : World) (e : Ending) (w' : World) : Prop := ∃ b, e = .returned (.bool b) ∧ (b = true → FieldsP D v) ∧ Below w.heap.size w w'
def MayT (v : VL) (w : World) (e : Ending) (w' : World) : Prop := ∃ b, e = .returned (.bool b) ∧ (b = true → mayB 64 v = true) ∧ Below w.heap.size w w'
def FieldsAny (D : Nat) : Prop := ∀ (v : VL) (lv : Value) (w : World), RowRd w D v.kids lv →
  Calls Tryd.prog 14 #[.agg #[.int .i64 v.kind, .int .i64 v.num, .string v.text, lv]] w (FieldsT D v w)
theorem FieldsAny.call {D : Nat} (h : FieldsAny D) (v : VL) (lv : Value) (w : World) (hr : RowRd w D v.kids lv) :
  Calls Tryd.prog 14 #[.agg #[.int .i64 v.kind, .int .i64 v.num, .string v.text, lv]] w (FieldsT D v w) := h v lv w hr
set_option maxHeartbeats 4000000 in
theorem fields_listG (D : Nat) (IH : 0 < D → FieldsAny (D - 1)) (v : VL) (lv : Value) (h : RowRd w D v.kids lv) (hk : v.kind = 4) :
    Calls Tryd.prog 14 #[.agg #[.int .i64 v.kind, .int .i64 v.num, .string v.text, lv]] w (FieldsT D v w) := by
  have g1 : (v.kind == 1) = false := by simp [hk]
  have g2 : (v.kind == 2) = false := by simp [hk]
  have g3 : (v.kind == 3) = false := by simp [hk]
  have g4 : (v.kind == 4) = true := by simp [hk]
  have HK := Lib.hid hk
  have H := Lib.hid h
  have hl := h.len
  unfold maxLen at hl
  obtain ⟨ao, cap, rfl⟩ := h.shape
  have I := Lib.hid (fun (hD : 0 < D) W (u : VL) (lu : Value) (hu : RowRd W (D - 1) u.kids lu) => (IH hD).call u lu W hu)
  clear h hk IH
  go_enter Tryd.func14, Tryd.ntmps14
  go_wp2_with fail
  have X := Lib.hid (VBlk.new w v (.slice ao v.kids.length cap))
  have B0 := Lib.hid (show Kept w _ from below_al (Below.refl w.heap.size w) (.cells #[.int .i64 v.kind, .int .i64 v.num, .string v.text, .slice ao v.kids.length cap] 26))
  generalize hw1 : w.alloc (.cells #[.int .i64 v.kind, .int .i64 v.num, .string v.text, .slice ao v.kids.length cap] 26) = w1 at *
  have G0 := Lib.hid hw1
  clear hw1
  go_loopg [3] v.kids.length (fun m iv wr => ∃ (i : Nat), iv = .int .i64 i ∧ v.kids.length - i ≤ m ∧ i ≤ v.kids.length ∧ Below w1.heap.size w1 wr ∧ Hid (∀ u ∈ v.kids.take i, FieldsP (D - 1) u))
  case atStart => exact ⟨0, rfl, Nat.le_refl _, Nat.zero_le _, Below.refl _ _, Lib.hid (fun u hu => by simp at hu)⟩
  case round =>
    obtain ⟨i, rfl, hm, hi, hb, AL⟩ := hrel
    have HM := Lib.hid hm
    have BR := Lib.hid hb
    obtain ⟨x0, x1, x2, x3⟩ := (X.out.below hb).cells
    have xl := (X.out.below hb).lt
    clear hm hb
    by_cases hil : i < v.kids.length
    · obtain ⟨u, hu⟩ : ∃ u, v.kids[i]? = some u := ⟨_, List.getElem?_eq_getElem hil⟩
      have hD : 0 < D := by
        cases D with
        | zero => obtain ⟨e, -⟩ := H.out; rw [e] at hil; simp at hil
        | succ D => omega
      obtain ⟨ao2, cap2, e2, hat⟩ := (H.out.below (below_tr B0.out BR.out)).at
      simp only [Value.slice.injEq, true_and] at e2
      obtain ⟨rfl, rfl⟩ := e2
      obtain ⟨gg, oo, lu, rfl, -, c0, c1, c2, c3, hr⟩ := hat i u hu
      obtain ⟨lao, lcap, rfl⟩ := hr.shape
      have CU := Lib.hid (I.out hD wr u _ hr)
      have TK := Lib.hid (show v.kids.take (i + 1) = v.kids.take i ++ [u] by rw [List.take_add_one, hu]; rfl)
      clear hat hu hr
      go_wp2_with fail
      refine (CU.out).mono ?_
      rintro e w2 ⟨b, rfl, hbp, hb2⟩
      have B2 := Lib.hid (below_tr BR.out hb2)
      have HP := Lib.hid hbp
      clear hb2 hbp c0 c1 c2 c3 x0 x1 x2 x3 xl
      cases b
      · go_wp2_with fail
        go_ret
        exact ⟨false, rfl, fun e => (by cases e), below_tr B0.out B2.out⟩
      · go_wp2_with fail
        go_roundg (v.kids.length - (i + 1))
        case rel => exact ⟨i + 1, rfl, Nat.le_refl _, hil, B2.out, Lib.hid (fun x hx => by
          rw [TK.out] at hx
          rcases List.mem_append.1 hx with hx | hx
          · exact AL.out x hx
          · simp only [List.mem_singleton] at hx; subst hx; exact HP.out (by trivial))⟩
        case measure => have := HM.out; omega
    · have e : v.kids.take i = v.kids := List.take_of_length_le (by omega)
      rw [e] at AL
      have BZ := Lib.hid (below_tr B0.out BR.out)
      have FIN := Lib.hid (fun (h1 : (v.num == 0) = true) (h2 : v.text.toList.isEmpty = true) (h3 : v.kids.length ≤ 64) => show FieldsP D v from by
        have hh : HeadP v := .inl ⟨HK.out, by simpa using h1, h2, h3⟩
        cases D with
        | zero => exact ⟨hh, by obtain ⟨e, -⟩ := H.out; exact e⟩
        | succ D => exact ⟨hh, fun _ u hu => AL.out u hu⟩)
      clear e
      cases e1 : (v.num == 0) <;> cases e2 : v.text.toList.isEmpty <;> by_cases h3 : v.kids.length ≤ 64
      all_goals
        first | (have h3i : (v.kids.length : Int) ≤ 64 := by omega) | (have h3i : ¬ (v.kids.length : Int) ≤ 64 := by omega)
        go_wp2_with fail
        go_ret
        first
        | exact ⟨true, rfl, fun _ => FIN.out e1 e2 h3, BZ.out⟩
        | exact ⟨false, rfl, fun e => (by cases e), BZ.out⟩
end
theorem rfieldsG : ∀ D, FieldsAny D := by
  intro D
  induction D with
  | zero =>
    intro v lv w h
    by_cases hk : v.kind = 4
    · exact fields_listG w 0 (fun h => absurd h (Nat.lt_irrefl _)) v lv h hk
    · have h0 := h.1
      obtain ⟨lao, lcap, rfl⟩ := h.shape
      exact (fields_leafG w v lao lcap hk).mono fun e w' ⟨h1, h2⟩ => ⟨_, h1, fun hb => ⟨.inr hb, h0⟩, h2⟩
  | succ D ih =>
    intro v lv w h
    by_cases hk : v.kind = 4
    · exact fields_listG w (D + 1) (fun _ => ih) v lv h hk
    · obtain ⟨lao, lcap, rfl⟩ := h.shape
      exact (fields_leafG w v lao lcap hk).mono fun e w' ⟨h1, h2⟩ => ⟨_, h1, fun hb => ⟨.inr hb, fun h4 => absurd h4 hk⟩, h2⟩
theorem rMayValG (w : World) (D : Nat) (v : VL) (lv : Value) (h : RowRd w D v.kids lv) :
    Calls Tryd.prog 6 #[.agg #[.int .i64 v.kind, .int .i64 v.num, .string v.text, lv]] w (MayT v w) := by
  have DD := Lib.hid (fun W (hW : Below w.heap.size w W) => (rdeep 64 (Nat.le_refl _)).call D v lv W (h.below hW))
  have FF := Lib.hid (fun W (hW : Below w.heap.size w W) => (rfieldsG D).call v lv W (h.below hW))
  have MM := Lib.hid (fun (hd : deepI 64 v ≤ 64) (hf : FieldsP D v) => fields_may 64 D v hd hf)
  obtain ⟨lao, lcap, rfl⟩ := h.shape
  clear h
  have hbd := deepI_bound 64 v
  generalize deepI 64 v = dd at *
  by_cases hd : dd ≤ 64
  · go_enter Tryd.func6, Tryd.ntmps6
    go_wp2_with fail
    refine (DD.out _ (below_al (Below.refl _ _) _)).mono ?_
    rintro e w2 ⟨rfl, hb2⟩
    have B2 := Lib.hid (below_tr (below_al (Below.refl w.heap.size w) (.cells #[.int .i64 v.kind, .int .i64 v.num, .string v.text, .slice lao v.kids.length lcap] 26)) hb2)
    obtain ⟨x0, x1, x2, x3⟩ := ((VBlk.new w v (.slice lao v.kids.length lcap)).below hb2).cells
    clear hb2
    go_wp2_with fail
    refine (FF.out _ B2.out).mono ?_
    rintro e w3 ⟨b, rfl, hbp, hb3⟩
    have B3 := Lib.hid (below_tr B2.out hb3)
    have HP := Lib.hid hbp
    clear hb3 hbp
    cases b
    all_goals
      go_wp2_with fail
      go_ret
    · exact ⟨false, rfl, fun e => (by cases e), B3.out⟩
    · exact ⟨true, rfl, fun e => MM.out hd (HP.out (by trivial)), B3.out⟩
  · go_enter Tryd.func6, Tryd.ntmps6
    go_wp2_with fail
    refine (DD.out _ (below_al (Below.refl _ _) _)).mono ?_
    rintro e w2 ⟨rfl, hb2⟩
    have B2 := Lib.hid (below_tr (below_al (Below.refl w.heap.size w) (.cells #[.int .i64 v.kind, .int .i64 v.num, .string v.text, .slice lao v.kids.length lcap] 26)) hb2)
    clear hb2
    go_wp2_with fail
    go_ret
    exact ⟨false, rfl, fun e => (by cases e), B2.out⟩
end Go.Proofs.YtoaachefdbepiaaDoor
namespace Go.Proofs.YtoaachefdbepiaaDoor
open Go.RowKit
set_option linter.unusedVariables false
set_option linter.unusedSimpArgs false

def ManyT (f : Nat) (w : World) (e : Ending) (w' : World) : Prop := ∃ n : Nat, e = .returned (.int .i64 (n : Int)) ∧ n ≤ 1000 + 1000 * f ∧ Below w.heap.size w w'
def BoolT (w : World) (e : Ending) (w' : World) : Prop := ∃ b, e = .returned (.bool b) ∧ Below w.heap.size w w'
def ManyOf (f : Nat) : Prop := ∀ (D : Nat) (v : VL) (lv : Value) (w : World), RowRd w D v.kids lv →
  Calls Tryd.prog 12 #[.agg #[.int .i64 v.kind, .int .i64 v.num, .string v.text, lv], .int .i64 (81 - (f : Int))] w (ManyT f w)
theorem ManyOf.call {f : Nat} (h : ManyOf f) (D : Nat) (v : VL) (lv : Value) (w : World) (hr : RowRd w D v.kids lv) :
  Calls Tryd.prog 12 #[.agg #[.int .i64 v.kind, .int .i64 v.num, .string v.text, lv], .int .i64 (81 - (f : Int))] w (ManyT f w) := h D v lv w hr
section
variable (w : World)
set_option maxRecDepth 20000
set_option maxHeartbeats 4000000 in
theorem many_out (f : Nat) (hf : f ≤ 81) (v : VL) (lao : Option Addr) (lcap : Nat) (hl : v.kids.length ≤ maxLen) (h : f = 0 ∨ 100 < v.kids.length ∨ 600 < v.text.size) :
    Calls Tryd.prog 12 #[.agg #[.int .i64 v.kind, .int .i64 v.num, .string v.text, .slice lao v.kids.length lcap], .int .i64 (81 - (f : Int))] w (ManyT f w) := by
  unfold maxLen at hl
  by_cases h0 : f = 0
  · subst h0
    have e : (81 : Int) - ((0 : Nat) : Int) = 81 := rfl
    rw [e]
    go_enter Tryd.func12, Tryd.ntmps12
    go_wp2_with fail
    go_ret
    exact ⟨1000, rfl, by omega, below_al (Below.refl _ _) _⟩
  · obtain ⟨dp, hdp⟩ : ∃ dp : Nat, dp = 81 - f := ⟨_, rfl⟩
    have e : (81 : Int) - (f : Int) = (dp : Int) := by omega
    rw [e]
    have h80 : ¬ (80 : Int) < (dp : Int) := by omega
    clear e
    by_cases h1 : 100 < v.kids.length
    · have g1 : (100 : Int) < (v.kids.length : Int) := by omega
      clear h
      go_enter Tryd.func12, Tryd.ntmps12
      go_wp2_with fail
      go_ret
      exact ⟨1000, rfl, by omega, below_al (Below.refl _ _) _⟩
    · have g1 : ¬ (100 : Int) < (v.kids.length : Int) := by omega
      have h2 : 600 < v.text.size := by omega
      have g2 : (600 : Int) < (v.text.size : Int) := by omega
      clear h
      go_enter Tryd.func12, Tryd.ntmps12
      go_wp2_with fail
      go_ret
      exact ⟨1000, rfl, by omega, below_al (Below.refl _ _) _⟩
set_option maxHeartbeats 4000000 in
theorem many_in (f D : Nat) (hf : f ≤ 80) (IH : ManyOf f) (v : VL) (lv : Value) (h : RowRd w D v.kids lv) (h1 : v.kids.length ≤ 100) (h2 : v.text.size ≤ 600) :
    Calls Tryd.prog 12 #[.agg #[.int .i64 v.kind, .int .i64 v.num, .string v.text, lv], .int .i64 (81 - ((f + 1 : Nat) : Int))] w (ManyT (f + 1) w) := by
  obtain ⟨dp, hdp⟩ : ∃ dp : Nat, dp + f = 80 := ⟨80 - f, by omega⟩
  have e : (81 : Int) - ((f + 1 : Nat) : Int) = (dp : Int) := by omega
  have e2 : (81 : Int) - (f : Int) = (dp : Int) + 1 := by omega
  rw [e]
  have I := Lib.hid (fun W (u : VL) (lu : Value) (hu : RowRd W (D - 1) u.kids lu) => by have := IH.call (D - 1) u lu W hu; rw [e2] at this; exact this)
  have h80 : ¬ (80 : Int) < (dp : Int) := by omega
  have g1 : ¬ (100 : Int) < (v.kids.length : Int) := by omega
  have g2 : ¬ (600 : Int) < (v.text.size : Int) := by omega
  have H := Lib.hid h
  obtain ⟨ao, cap, rfl⟩ := h.shape
  clear h IH e e2
  go_enter Tryd.func12, Tryd.ntmps12
  go_wp2_with fail
  have X := Lib.hid (VBlk.new w v (.slice ao v.kids.length cap))
  have B0 := Lib.hid (show Kept w _ from below_al (Below.refl w.heap.size w) (.cells #[.int .i64 v.kind, .int .i64 v.num, .string v.text, .slice ao v.kids.length cap] 26))
  generalize hw1 : w.alloc (.cells #[.int .i64 v.kind, .int .i64 v.num, .string v.text, .slice ao v.kids.length cap] 26) = w1 at *
  have G0 := Lib.hid hw1
  clear hw1
  go_loopg [5, 6] v.kids.length (fun m nv iv wr => ∃ (i n : Nat), iv = .int .i64 i ∧ nv = .int .i64 (n : Int) ∧ n ≤ 1000 + 1000 * (f + 1) ∧ v.kids.length - i ≤ m ∧ i ≤ v.kids.length ∧ Below w1.heap.size w1 wr)
  case atStart => exact ⟨0, 1, rfl, rfl, by omega, Nat.le_refl _, Nat.zero_le _, Below.refl _ _⟩
  case round =>
    obtain ⟨i, n, rfl, rfl, hn, hm, hi, hb⟩ := hrel
    have HM := Lib.hid hm
    have BR := Lib.hid hb
    obtain ⟨x0, x1, x2, x3⟩ := (X.out.below hb).cells
    have xl := (X.out.below hb).lt
    clear hm hb
    by_cases hil : i < v.kids.length
    · by_cases hn1 : n < 1000
      · have hn2 : (n : Int) < 1000 := by omega
        obtain ⟨u, hu⟩ : ∃ u, v.kids[i]? = some u := ⟨_, List.getElem?_eq_getElem hil⟩
        obtain ⟨ao2, cap2, e2, hat⟩ := (H.out.below (below_tr B0.out BR.out)).at
        simp only [Value.slice.injEq, true_and] at e2
        obtain ⟨rfl, rfl⟩ := e2
        obtain ⟨gg, oo, lu, rfl, -, c0, c1, c2, c3, hr⟩ := hat i u hu
        obtain ⟨lao, lcap, rfl⟩ := hr.shape
        have CU := Lib.hid (I.out wr u _ hr)
        clear hat hu hr
        go_wp2_with fail
        refine (CU.out).mono ?_
        rintro e w2 ⟨k, rfl, hk, hb2⟩
        have B2 := Lib.hid (below_tr BR.out hb2)
        clear hb2 c0 c1 c2 c3 x0 x1 x2 x3 xl
        go_wp2_with fail
        go_roundg (v.kids.length - (i + 1))
        case rel => exact ⟨i + 1, n + k, rfl, by congr 1, by omega, Nat.le_refl _, hil, B2.out⟩
        case measure => have := HM.out; omega
      · have hn2 : ¬ (n : Int) < 1000 := by omega
        have BZ := Lib.hid (below_tr B0.out BR.out)
        go_wp2_with fail
        go_ret
        exact ⟨n, rfl, hn, BZ.out⟩
    · have BZ := Lib.hid (below_tr B0.out BR.out)
      have hil2 : ¬ (i : Int) < (v.kids.length : Int) := by omega
      cases hnn : decide ((n : Int) < 1000)
      all_goals
        go_wp2_with fail
        go_ret
        exact ⟨n, rfl, hn, BZ.out⟩
end
theorem rmany : ∀ f, f ≤ 81 → ManyOf f := by
  intro f
  induction f with
  | zero =>
    intro _ D v lv w h
    have hl := h.len
    obtain ⟨lao, lcap, rfl⟩ := h.shape
    exact many_out w 0 (by omega) v lao lcap hl (.inl rfl)
  | succ f ih =>
    intro hf D v lv w h
    by_cases h1 : v.kids.length ≤ 100 ∧ v.text.size ≤ 600
    · exact many_in w f D (by omega) (ih (by omega)) v lv h h1.1 h1.2
    · have hl := h.len
      obtain ⟨lao, lcap, rfl⟩ := h.shape
      exact many_out w (f + 1) (by omega) v lao lcap hl (by omega)
theorem rgreat (w : World) (D : Nat) (v : VL) (lv : Value) (h : RowRd w D v.kids lv) :
    Calls Tryd.prog 5 #[.agg #[.int .i64 v.kind, .int .i64 v.num, .string v.text, lv], .int .i64 0] w (BoolT w) := by
  have MM := Lib.hid (fun W (hW : Below w.heap.size w W) => (rmany 81 (Nat.le_refl _)).call D v lv W (h.below hW))
  obtain ⟨lao, lcap, rfl⟩ := h.shape
  clear h
  go_enter Tryd.func5, Tryd.ntmps5
  go_wp2_with fail
  refine (MM.out _ (below_al (Below.refl _ _) _)).mono ?_
  rintro e w2 ⟨n, rfl, hn, hb2⟩
  have B2 := Lib.hid (below_tr (below_al (Below.refl w.heap.size w) (.cells #[.int .i64 v.kind, .int .i64 v.num, .string v.text, .slice lao v.kids.length lcap] 26)) hb2)
  clear hb2
  go_wp2_with fail
  go_ret
  exact ⟨_, rfl, B2.out⟩
end Go.Proofs.YtoaachefdbepiaaDoor
namespace Go.Proofs.YtoaachefdbepiaaDoor
open Go.ChangeShapes Go.WideShapes Go.ChangeAt Go.RowKit
set_option linter.unusedVariables false
set_option linter.unusedSimpArgs false

instance : Inhabited VL := ⟨.mk 0 0 ⟨#[]⟩ []⟩
/-- All numbers within are of 64 bits. -/
def AllI : Nat → List VL → Prop
  | 0, l => l = []
  | D + 1, l => ∀ u ∈ l, I64 u.num ∧ I64 u.kind ∧ AllI D u.kids
theorem allI_nil (D : Nat) : AllI D [] := by
  cases D with
  | zero => rfl
  | succ D => intro u hu; cases hu
theorem allI_up : ∀ {D E : Nat} {l : List VL}, AllI D l → D ≤ E → AllI E l := by
  intro D
  induction D with
  | zero => intro E l h _; obtain rfl : l = [] := h; exact allI_nil E
  | succ D ih =>
    intro E l h hE
    cases E with
    | zero => omega
    | succ E => intro u hu; exact ⟨(h u hu).1, (h u hu).2.1, ih (h u hu).2.2 (by omega)⟩
theorem cells_val : Tryd.prog.cellsOf 26 = 4 := by kernel_rfl
theorem cells_i : Tryd.prog.cellsOf 3 = 1 := by kernel_rfl
theorem cells_s : Tryd.prog.cellsOf 9 = 1 := by kernel_rfl
theorem cells_l : Tryd.prog.cellsOf 22 = 1 := by kernel_rfl
section
variable {H : Type} {enc : TypeId × Value → H} {W : World}
set_option maxRecDepth 100000 in
/-- One value, read out of its four cells. -/
theorem open_val4 {n : Nat} {cs : List Value} {y : DataW H × List MemPlace} (h : DataW.trod enc Tryd.prog W 0 (fun _ => true) true n 26 cs = some y) :
    ∃ (n' : Nat) (k m : Int) (s : ByteArray) (lv : Value) (z : DataW H × List MemPlace), n = n' + 1 ∧ cs = [.int .i64 k, .int .i64 m, .string s, lv] ∧ I64 k ∧ I64 m ∧ s.size ≤ maxLen ∧ DataW.trod enc Tryd.prog W 0 (fun _ => true) true n' 22 [lv] = some z := by
  obtain ⟨xs, n', hn, -, hl, hxl, hf⟩ := DataW.trod_struct Tryd.underlying26 h
  rw [cells_val] at hl
  match cs, hl with
  | [c0, c1, c2, c3], _ =>
    have hx : xs.length = 4 := hxl
    have g0 : DataW.trod enc Tryd.prog W 0 (fun _ => true) true n' 3 ((([c0, c1, c2, c3] : List Value).drop 0).take (Tryd.prog.cellsOf 3)) = xs[0]? := hf 0 _ rfl
    rw [cells_i] at g0
    replace g0 : DataW.trod enc Tryd.prog W 0 (fun _ => true) true n' 3 [c0] = xs[0]? := g0
    have g1 : DataW.trod enc Tryd.prog W 0 (fun _ => true) true n' 3 ((([c0, c1, c2, c3] : List Value).drop 1).take (Tryd.prog.cellsOf 3)) = xs[1]? := hf 1 _ rfl
    rw [cells_i] at g1
    replace g1 : DataW.trod enc Tryd.prog W 0 (fun _ => true) true n' 3 [c1] = xs[1]? := g1
    have g2 : DataW.trod enc Tryd.prog W 0 (fun _ => true) true n' 9 ((([c0, c1, c2, c3] : List Value).drop 2).take (Tryd.prog.cellsOf 9)) = xs[2]? := hf 2 _ rfl
    rw [cells_s] at g2
    replace g2 : DataW.trod enc Tryd.prog W 0 (fun _ => true) true n' 9 [c2] = xs[2]? := g2
    have g3 : DataW.trod enc Tryd.prog W 0 (fun _ => true) true n' 22 ((([c0, c1, c2, c3] : List Value).drop 3).take (Tryd.prog.cellsOf 22)) = xs[3]? := hf 3 _ rfl
    rw [cells_l] at g3
    replace g3 : DataW.trod enc Tryd.prog W 0 (fun _ => true) true n' 22 [c3] = xs[3]? := g3
    rw [List.getElem?_eq_getElem (by omega)] at g0 g1 g2 g3
    obtain ⟨k, hk, -, wk⟩ := DataW.trod_int Tryd.underlying3 g0
    obtain ⟨m, hm, -, wm⟩ := DataW.trod_int Tryd.underlying3 g1
    obtain ⟨s, hs, -, ws⟩ := DataW.trod_string Tryd.underlying9 g2
    simp only [List.cons.injEq, and_true] at hk hm hs
    simp only [Lit.wf, Bool.and_eq_true, decide_eq_true_eq] at wk wm
    exact ⟨n', k, m, s, c3, _, hn, by rw [hk, hm, hs], wk, wm, ws, g3⟩
set_option maxRecDepth 100000 in
theorem open_vals_at : ∀ (fuel : Nat) (cs : List Value) (x : DataW H × List MemPlace), DataW.trod enc Tryd.prog W 0 (fun _ => true) true fuel 22 cs = some x →
    ∃ (l : List VL) (lv : Value), cs = [lv] ∧ RowRd W fuel l lv ∧ AllI fuel l := by
  intro fuel
  induction fuel using Nat.strongRecOn with
  | _ fuel ih =>
    intro cs x h
    rcases DataW.trod_slice Tryd.underlying22 h with ⟨rfl, -⟩ | ⟨a, len, cap, elems, rest, n, rfl, rfl, -, hb, hl, hm, hlen, hel, -, -⟩
    · exact ⟨[], .slice none 0 0, rfl, RowRd.nil _ _ _ _, allI_nil _⟩
    · have each : ∀ i, i < len → ∃ u : VL, ∃ lu : Value, W.cell? (a.add (i * 4)) = some (.int .i64 u.kind) ∧ W.cell? ((a.add (i * 4)).add 1) = some (.int .i64 u.num) ∧ W.cell? ((a.add (i * 4)).add 2) = some (.string u.text) ∧ W.cell? ((a.add (i * 4)).add 3) = some lu ∧ RowRd W n u.kids lu ∧ I64 u.num ∧ I64 u.kind ∧ AllI n u.kids := by
        intro i hi
        have he := hel i hi
        rw [List.getElem?_eq_getElem (by omega), cells_val] at he
        obtain ⟨cs', h1, h2⟩ := Option.bind_eq_some_iff.1 he
        obtain ⟨n', k, m, s, lv, z, rfl, rfl, hk, hm', hs, h3⟩ := open_val4 h2
        obtain ⟨kids, lv', e, hr, ha⟩ := ih n' (by omega) _ _ h3
        simp only [List.cons.injEq, and_true] at e
        subst e
        obtain ⟨-, -, hat⟩ := World.cells?_some h1
        have e0 : (a.add (i * 4)).add 0 = a.add (i * 4) := by simp [Addr.add]
        exact ⟨.mk k m s kids, lv, by have := hat 0 (by omega); rw [e0] at this; exact this, hat 1 (by omega), hat 2 (by omega), hat 3 (by omega), hr.up (by omega), hm', hk, allI_up ha (by omega)⟩
      obtain ⟨U, hU⟩ := Deep.choose_lt each
      refine ⟨(List.range len).map U, _, rfl, ⟨by simp; omega, some a, cap, by simp, fun i u hu => ?_⟩, fun u hu => ?_⟩
      · have hil : i < len := by
          have := (List.getElem?_eq_some_iff.1 hu).1
          simpa using this
        have hx : u = U i := by
          rw [List.getElem?_map, List.getElem?_range hil] at hu
          simpa using hu.symm
        subst hx
        obtain ⟨lu, c0, c1, c2, c3, hr, -, -, -⟩ := hU i hil
        obtain ⟨ab, ao, spot⟩ := a
        have hspot : spot = none := by
          obtain ⟨-, d0, -⟩ := hU 0 (by omega)
          simpa [Addr.add] using World.cell?_spot d0
        subst hspot
        simp only [Addr.add_lit] at c0 c1 c2 c3
        exact ⟨ab, ao, lu, rfl, c0, c1, c2, c3, hr⟩
      · obtain ⟨i, hi, rfl⟩ := List.mem_map.1 hu
        obtain ⟨lu, -, -, -, -, -, h1, h2, h3⟩ := hU i (List.mem_range.1 hi)
        exact ⟨h1, h2, h3⟩
end
set_option maxRecDepth 100000 in
/-- A row of values that came in. -/
theorem open_vals {H : Type} {enc : TypeId × Value → H} {W : World} {base : Nat} {v : Value} {d : DataW H} {p : List MemPlace} (hval : Value.okWide Tryd.prog W .any base 22 v) (h : DataW.Trod enc Tryd.prog W 0 (fun _ => true) true 22 v d p) :
    ∃ (D : Nat) (l : List VL), RowRd W D l v ∧ AllI D l := by
  obtain ⟨a0, len, cap, rfl⟩ := okWide_slice Tryd.underlying22 hval
  obtain ⟨fuel, hf⟩ := h
  obtain ⟨l, lv, e, hr, ha⟩ := open_vals_at fuel _ _ hf
  simp only [Value.cells, List.cons.injEq, and_true] at e
  subst e
  exact ⟨fuel, l, hr, ha⟩
end Go.Proofs.YtoaachefdbepiaaDoor
namespace Go.Proofs.YtoaachefdbepiaaDoor
open Go.RowKit
set_option linter.unusedVariables false
set_option linter.unusedSimpArgs false

theorem bytes_of {s : ByteArray} {l : List UInt8} (h : (s.toList == l) = true) : s = ⟨l.toArray⟩ := by
  obtain ⟨⟨b⟩⟩ := s
  have e : (⟨⟨b⟩⟩ : ByteArray).toList = b := by simp
  rw [e] at h
  have h2 : b = l := by simpa using h
  rw [h2]
theorem any_alike (s : ByteArray) (W : World) (D : Nat) (l : List VL) (lv : Value) (h : RowRd W D l lv) (hl : l.length ≤ 100) (hA : ∀ v ∈ l, ArgOK v) (ht : TabOK W) : Alike s lv W := by
  cases h0 : (s.toList == [109, 105, 110])
  case true => obtain rfl : s = ⟨#[109, 105, 110]⟩ := bytes_of h0; exact alike_min W D l lv h hl hA
  cases h1 : (s.toList == [109, 97, 120])
  case true => obtain rfl : s = ⟨#[109, 97, 120]⟩ := bytes_of h1; exact alike_max W D l lv h hl hA
  cases h2 : (s.toList == [115, 117, 109])
  case true => obtain rfl : s = ⟨#[115, 117, 109]⟩ := bytes_of h2; exact alike_sum W D l lv h hl hA
  cases h3 : (s.toList == [108, 101, 110])
  case true => obtain rfl : s = ⟨#[108, 101, 110]⟩ := bytes_of h3; exact alike_len W D l lv h hl hA
  cases h4 : (s.toList == [99, 111, 110, 99, 97, 116])
  case true => obtain rfl : s = ⟨#[99, 111, 110, 99, 97, 116]⟩ := bytes_of h4; exact alike_concat W D l lv h hl hA
  cases h5 : (s.toList == [106, 111, 105, 110])
  case true => obtain rfl : s = ⟨#[106, 111, 105, 110]⟩ := bytes_of h5; exact alike_join W D l lv h hl hA
  cases h6 : (s.toList == [114, 97, 110, 103, 101])
  case true => obtain rfl : s = ⟨#[114, 97, 110, 103, 101]⟩ := bytes_of h6; exact alike_range W D l lv h hl hA
  cases h7 : (s.toList == [97, 98, 115])
  case true => obtain rfl : s = ⟨#[97, 98, 115]⟩ := bytes_of h7; exact alike_abs W D l lv h hl hA
  cases h8 : (s.toList == [104, 97, 115])
  case true => obtain rfl : s = ⟨#[104, 97, 115]⟩ := bytes_of h8; exact alike_has W D l lv h hl hA
  cases h9 : (s.toList == [116, 101, 120, 116])
  case true => obtain rfl : s = ⟨#[116, 101, 120, 116]⟩ := bytes_of h9; exact alike_text W D l lv h hl hA ht
  obtain ⟨ao, cap, rfl⟩ := h.shape
  exact alike_none W s ⟨h0, h1, h2, h3, h4, h5, h6, h7, h8, h9⟩ _ _ _
theorem allI_arg {D : Nat} {l : List VL} (h : AllI D l) : ∀ v ∈ l, I64 v.num ∧ ∀ u ∈ v.kids, I64 u.num := by
  cases D with
  | zero => have h0 : l = [] := h; intro v hv; rw [h0] at hv; cases hv
  | succ D =>
    intro v hv
    refine ⟨(h v hv).1, ?_⟩
    have h2 := (h v hv).2.2
    cases D with
    | zero => have h0 : v.kids = [] := h2; intro u hu; rw [h0] at hu; cases hu
    | succ D => exact fun u hu => (h2 u hu).1
section
variable (w : World)
set_option maxRecDepth 100000
set_option maxHeartbeats 8000000 in
theorem law_all5 (s : ByteArray) (l : List VL) (lv : Value) (D0 : Nat) (h : RowRd w D0 l lv) (hi : AllI D0 l) (hs : s.size ≤ maxLen) (ht : TabOK w) :
    Calls Tryd.prog 3 #[.string s, lv] w (Made (.bool true) w) := by
  have H := Lib.hid h
  have HT := Lib.hid ht
  have HI := Lib.hid (allI_arg hi)
  have hl := h.len
  obtain ⟨ao, cap, rfl⟩ := h.shape
  unfold maxLen at hl hs
  clear h hi ht
  by_cases h12 : 12 < l.length
  · go_enter Tryd.func3, Tryd.ntmps3
    go_wp2_with fail
    refine (law_awake5 _).mono ?_
    rintro e w2 ⟨rfl, hb⟩
    go_wp2_with fail
    go_ret
    exact ⟨rfl, hb⟩
  · by_cases h100 : 100 < s.size
    · go_enter Tryd.func3, Tryd.ntmps3
      go_wp2_with fail
      refine (law_awake5 _).mono ?_
      rintro e w2 ⟨rfl, hb⟩
      go_wp2_with fail
      go_ret
      exact ⟨rfl, hb⟩
    · have hl12 : l.length ≤ 12 := by omega
      have hs100 : s.size ≤ 100 := by omega
      clear hl hs
      go_enter Tryd.func3, Tryd.ntmps3
      go_wp2_with fail
      clear h12 h100
      go_loopg [5] l.length (fun m iv wr => ∃ (i : Nat), iv = .int .i64 i ∧ l.length - i ≤ m ∧ i ≤ l.length ∧ Below w.heap.size w wr ∧ Hid (∀ u ∈ l.take i, mayB 64 u = true))
      case atStart => exact ⟨0, rfl, Nat.le_refl _, Nat.zero_le _, Below.refl _ _, Lib.hid (fun u hu => by simp at hu)⟩
      case round =>
        obtain ⟨i, rfl, hm, hi, hb, AL⟩ := hrel
        have HM := Lib.hid hm
        have BR := Lib.hid hb
        clear hm hb
        by_cases hil : i < l.length
        · obtain ⟨u, hu⟩ : ∃ u, l[i]? = some u := ⟨_, List.getElem?_eq_getElem hil⟩
          obtain ⟨ao2, cap2, e2, hat⟩ := (H.out.below BR.out).at
          simp only [Value.slice.injEq, true_and] at e2
          obtain ⟨rfl, rfl⟩ := e2
          obtain ⟨gg, oo, lu, rfl, -, c0, c1, c2, c3, hr⟩ := hat i u hu
          obtain ⟨lao, lcap, rfl⟩ := hr.shape
          have TK := Lib.hid (show l.take (i + 1) = l.take i ++ [u] by rw [List.take_add_one, hu]; rfl)
          have GR := Lib.hid (rgreat wr (D0 - 1) u _ hr)
          have MV := Lib.hid (fun W (hW : Below wr.heap.size wr W) => rMayValG W (D0 - 1) u _ (hr.below hW))
          have c0' := Lib.hid c0
          have c1' := Lib.hid c1
          have c2' := Lib.hid c2
          have c3' := Lib.hid c3
          clear hat hu hr
          go_wp2_with (first
            | (go_at_call 5; refine GR.out.mono ?_; rintro e w2 ⟨gb, rfl, hb2⟩; have B2 := Lib.hid hb2; have d0 := hold hb2 c0'.out; have d1 := hold hb2 c1'.out; have d2 := hold hb2 c2'.out; have d3 := hold hb2 c3'.out; clear hb2 c0 c1 c2 c3; cases gb)
            | (go_at_call 6; refine (MV.out _ B2.out).mono ?_; rintro e w3 ⟨mb, rfl, hmb, hb3⟩; have B3 := Lib.hid (below_tr B2.out hb3); have HMB := Lib.hid hmb; clear hb3 hmb; cases mb))
          · refine (law_awake5 _).mono ?_
            rintro e w4 ⟨rfl, hb⟩
            have B4 := Lib.hid (below_tr BR.out (below_tr B3.out hb))
            clear hb
            go_wp2_with fail
            go_ret
            exact ⟨rfl, B4.out⟩
          · go_roundg (l.length - (i + 1))
            case rel => exact ⟨i + 1, rfl, Nat.le_refl _, hil, below_tr BR.out B3.out, Lib.hid (fun x hx => by
              rw [TK.out] at hx
              rcases List.mem_append.1 hx with hx | hx
              · exact AL.out x hx
              · simp only [List.mem_singleton] at hx; subst hx; exact HMB.out (by trivial))⟩
            case measure => have := HM.out; omega
          · refine (law_awake5 _).mono ?_
            rintro e w4 ⟨rfl, hb⟩
            have B4 := Lib.hid (below_tr BR.out (below_tr B2.out hb))
            clear hb
            go_wp2_with fail
            go_ret
            exact ⟨rfl, B4.out⟩
        · have te : l.take i = l := List.take_of_length_le (by omega)
          rw [te] at AL
          have LA := Lib.hid (show ∀ v ∈ l, ArgOK v from fun v hv => ⟨AL.out v hv, (HI.out v hv).1, (HI.out v hv).2⟩)
          have RD := Lib.hid (H.out.below BR.out)
          obtain ⟨D, r, HF, HD, -⟩ := any_alike s wr D0 l _ RD.out (by omega) LA.out (HT.out.below BR.out)
          have AF := Lib.hid HF
          have AD := Lib.hid HD
          clear HF HD te
          go_wp2_with fail
          refine (AF.out _ (Below.refl _ _)).mono ?_
          rintro e w2 ⟨lv2, rfl, hr2, hb2⟩
          have B2 := Lib.hid hb2
          have R2 := Lib.hid hr2
          obtain ⟨lo2, lc2, rfl⟩ := hr2.shape
          clear hr2 hb2 AF
          unfold VL.val
          go_wp2_with fail
          have X2 := Lib.hid (VBlk.new w2 r.1 (.slice lo2 r.1.kids.length lc2))
          have B3 := Lib.hid (below_al B2.out (.cells #[.int .i64 r.1.kind, .int .i64 r.1.num, .string r.1.text, .slice lo2 r.1.kids.length lc2] 26))
          have R3 := Lib.hid (R2.out.below (below_al (Below.refl _ _) (.cells #[.int .i64 r.1.kind, .int .i64 r.1.num, .string r.1.text, .slice lo2 r.1.kids.length lc2] 26)))
          generalize w2.alloc (.cells #[.int .i64 r.1.kind, .int .i64 r.1.num, .string r.1.text, .slice lo2 r.1.kids.length lc2] 26) = w3 at *
          refine (AD.out _ B3.out).mono ?_
          rintro e w4 ⟨lv4, rfl, hr4, hb4⟩
          have B4 := Lib.hid (below_tr B3.out hb4)
          have X4 := Lib.hid (X2.out.below hb4)
          have R4 := Lib.hid (R3.out.below hb4)
          have S4 := Lib.hid hr4
          obtain ⟨lo4, lc4, rfl⟩ := hr4.shape
          clear hr4 hb4 AD R3 X2 B3 R2 B2
          go_wp2_with fail
          have GW := Lib.hid (below_al (Below.refl w4.heap.size w4) (.cells #[.int .i64 r.1.kind, .int .i64 r.1.num, .string r.1.text, .slice lo4 r.1.kids.length lc4, .int .i64 r.2] 32))
          have GX := Lib.hid (heap_alloc_new w4 (.cells #[.int .i64 r.1.kind, .int .i64 r.1.num, .string r.1.text, .slice lo4 r.1.kids.length lc4, .int .i64 r.2] 32))
          have K := Lib.hid (below_tr BR.out (below_tr B4.out GW.out))
          have XV := Lib.hid (X4.out.below GW.out)
          have RV := Lib.hid (R4.out.below GW.out)
          have RG := Lib.hid (S4.out.below GW.out)
          clear X4 R4 S4 B4 GW
          generalize w4.alloc (.cells #[.int .i64 r.1.kind, .int .i64 r.1.num, .string r.1.text, .slice lo4 r.1.kids.length lc4, .int .i64 r.2] 32) = wd at *
          generalize w4.heap.size = GG at *
          generalize w2.heap.size = GV at *
          have SIX : Hid (∀ V, Below wd.heap.size wd V → (fun w' => w'.cell? ⟨GV, 0, none⟩ = some (.int .i64 r.1.kind) ∧ w'.cell? ⟨GV, 1, none⟩ = some (.int .i64 r.1.num) ∧ w'.cell? ⟨GV, 2, none⟩ = some (.string r.1.text) ∧ w'.cell? ⟨GV, 3, none⟩ = some (.slice lo2 r.1.kids.length lc2) ∧ w'.cell? ⟨GG, 0, none⟩ = some (.int .i64 r.1.kind) ∧ w'.cell? ⟨GG, 1, none⟩ = some (.int .i64 r.1.num) ∧ w'.cell? ⟨GG, 2, none⟩ = some (.string r.1.text) ∧ w'.cell? ⟨GG, 3, none⟩ = some (.slice lo4 r.1.kids.length lc4) ∧ w'.cell? ⟨GG, 4, none⟩ = some (.int .i64 r.2)) V) := Lib.hid (fun V h => by
            obtain ⟨v0, v1, v2, v3⟩ := (XV.out.below h).cells
            have hg := (h.block GG (Array.getElem?_eq_some_iff.1 GX.out).1).trans GX.out
            exact ⟨v0, v1, v2, v3, cell_of_row V GG 0 _ _ _ hg, cell_of_row V GG 1 _ _ _ hg, cell_of_row V GG 2 _ _ _ hg, cell_of_row V GG 3 _ _ _ hg, cell_of_row V GG 4 _ _ _ hg⟩)
          have C1 := Lib.hid (fun V (h : Below wd.heap.size wd V) => by
            have h2 := (rsame D).call r.1 r.1 (.slice lo2 r.1.kids.length lc2) (.slice lo4 r.1.kids.length lc4) V (RV.out.below h) (RG.out.below h)
            rw [sameB_refl] at h2
            exact h2)
          clear XV RV RG GX RD LA AL
          go_region_held3 (fun w' => w'.cell? ⟨GV, 0, none⟩ = some (.int .i64 r.1.kind) ∧ w'.cell? ⟨GV, 1, none⟩ = some (.int .i64 r.1.num) ∧ w'.cell? ⟨GV, 2, none⟩ = some (.string r.1.text) ∧ w'.cell? ⟨GV, 3, none⟩ = some (.slice lo2 r.1.kids.length lc2) ∧ w'.cell? ⟨GG, 0, none⟩ = some (.int .i64 r.1.kind) ∧ w'.cell? ⟨GG, 1, none⟩ = some (.int .i64 r.1.num) ∧ w'.cell? ⟨GG, 2, none⟩ = some (.string r.1.text) ∧ w'.cell? ⟨GG, 3, none⟩ = some (.slice lo4 r.1.kids.length lc4) ∧ w'.cell? ⟨GG, 4, none⟩ = some (.int .i64 r.2)) (((with_reducible refine SIX.out _ ?_); (repeat (first | with_reducible exact HB.out | with_reducible exact Below.refl _ _ | with_reducible refine below_drew ?_ | with_reducible refine below_drewN ?_ _ | with_reducible refine below_al ?_ _)))) (first
      | (go_at_call 9; (with_reducible refine (C1.out _ ?_).mono ?_); (· (repeat (first | with_reducible exact HB.out | with_reducible exact Below.refl _ _ | with_reducible refine below_drew ?_ | with_reducible refine below_drewN ?_ _ | with_reducible refine below_al ?_ _))); rintro e w'' ⟨rfl, hb⟩; (have HB' : Below wd.heap.size wd w'' := by ((refine below_tr ?_ hb); (repeat (first | with_reducible exact HB.out | with_reducible exact Below.refl _ _ | with_reducible refine below_drew ?_ | with_reducible refine below_drewN ?_ _ | with_reducible refine below_al ?_ _)))); (clear hb); (have HB := Lib.hid HB'); (clear HB'))
      | (go_at_call 10; (with_reducible refine (lnum _ _).mono ?_); rintro e w'' ⟨rfl, rfl⟩)
      | (go_at_call 4; (with_reducible refine (law_awake5 _).mono ?_); rintro e w'' ⟨rfl, hb⟩; (have HB' : Below wd.heap.size wd w'' := by ((refine below_tr ?_ hb); (repeat (first | with_reducible exact HB.out | with_reducible exact Below.refl _ _ | with_reducible refine below_drew ?_ | with_reducible refine below_drewN ?_ _ | with_reducible refine below_al ?_ _)))); (clear hb); (have HB := Lib.hid HB'); (clear HB')))
          all_goals go_wp2
          all_goals go_ret
          all_goals exact ⟨rfl, below_tr K.out HB.out⟩
end
end Go.Proofs.YtoaachefdbepiaaDoor
namespace Go.Proofs.YtoaachefdbepiaaDoor
open Go.ChangeShapes Go.WideShapes Go.ChangeAt Go.RowKit
open Go.ChangeMaps (open_string shut_string)
set_option linter.unusedVariables false

theorem own : ownKnob Tryd.prog.godebug = none := by kernel_rfl
theorem laidOut : laidOutB Tryd.prog = true := by kernel_rfl
abbrev laidAll : List (String × DataW Unit) := Rows.funAllRow.laid
/-- The door's own heap meets the condition. -/
theorem door_met (os : Os) (args : Array Value) : laidMetH Tryd.prog laidAll ((World.doorLaid Tryd.prog 400 os).forCall (fun _ _ => 0) ⟨#[], args, []⟩).memory :=
  laidMetH_of_parts3 (fuel := 8) (laidMet_of_run' 8 (by kernel_rfl) (by kernel_rfl)) (by kernel_rfl) (by kernel_rfl)
theorem gPowType : (Tryd.prog.globals[1]?).map (·.type) = some 107 := by kernel_rfl
theorem tab_of_laid {W : World} (h : laidMetH Tryd.prog laidAll W) : TabOK W := by
  rw [MakeChecks.laidMetH_plain _ _ _ (by kernel_rfl)] at h
  exact Lib.tabIs_of_head gPow gPowType Tryd.underlying107 Tryd.underlying70 (by kernel_rfl) (by kernel_rfl) h.tail.tail
end Go.Proofs.YtoaachefdbepiaaDoor
namespace Go.Proofs.YtoaachefdbepiaaDoor.funAllDone
open Go.ChangeShapes Go.WideShapes Go.ChangeAt Go.RowKit
open Go.ChangeMaps (open_string shut_string)
set_option linter.unusedVariables false

set_option maxRecDepth 100000 in
theorem lifted (os : Os) (started : os.Started) (H : Type) (enc : TypeId × Value → H) :
    ReturnsInHanded {} Tryd.checked os 3 .any (fun w args => (Rows.funAllSpec.pre enc Tryd.prog Tryd.f3 [] false w args ∧ laidMetH Tryd.prog laidAll w) ∧ sizedMet enc Tryd.prog Tryd.f3 (OpenSpec.ofChange Rows.funAllSpec) false w args)
      (Rows.funAllSpec.post enc Tryd.prog Tryd.f3 false true false false) := by
  refine returnsInHanded_of_change_and (C := Tryd.checked) (X := fun w _ => laidMetH Tryd.prog laidAll w) (fun _ _ _ hh h => h.of_heap hh) own started (by kernel_rfl) Tryd.func3
    (ChangeSpec.witness_shaped (enc := enc) (C := Tryd.checked) (os := os) (X := fun w _ => laidMetH Tryd.prog laidAll w) false (World.doorLaid Tryd.prog 400 os) #[.string ⟨#[]⟩, .slice none 0 0] 8 rfl (World.shaped_of_RefB (by kernel_rfl) (by kernel_rfl)) (by kernel_rfl) (by kernel_rfl) (by kernel_rfl) (door_met os _)) ?_
  intro W base args ds gs before hval0 hW _ _ hL _
  have hval : ∀ (j : Nat) t v, Tryd.f3.params[j]? = some t → args[j]? = some v → Value.okWide Tryd.prog W .any base t v := hval0
  have hW' := hW
  obtain ⟨p, q, hA0, hV, rfl, hfz, hnd⟩ := hW
  have hA : DataW.TrodAll enc Tryd.prog W 0 (fun _ => true) true Tryd.f3.params.toList args.toList ds p := hA0
  rw [Tryd.params3] at hA hval
  obtain ⟨v0, v1, d0, d1, p0, p1, rfl, rfl, rfl, h0, h1⟩ := trodAll_two hA
  obtain ⟨rfl, rfl⟩ := trodVars_none hV
  have hlt1 : ∀ x ∈ p1, x.block < W.heap.size := fun x hx => hW'.lt x (by simp [hx])
  obtain ⟨s0, rfl, rfl, rfl, hs0⟩ := open_string Tryd.underlying9 (hval 0 9 v0 rfl rfl) h0
  obtain ⟨D1, l1, hr1, hi1⟩ := open_vals (hval 1 22 v1 rfl rfl) h1
  clear hA0 hval0
  simp only [List.append_nil] at hW'
  refine (law_all5 W s0 l1 v1 D1 hr1 hi1 hs0 (tab_of_laid hL)).mono fun e W' ⟨he, bel⟩ => ?_
  subst he
  exact ⟨_, rfl, _, _, _, [], _, [], hW', trodAll_mk1 (shut_bool Tryd.underlying4 _), trodAll_mk2 (shut_string Tryd.underlying9 hs0) (Below.trod laidOut (by kernel_rfl) (of_decide_eq_true (by kernel_rfl)) h1 bel hlt1), rfl, bel.frame _, fun h => by cases h⟩

theorem said : Rows.FunAllSaid :=
  OpenClaim.holds_of_wide 3 Tryd.f3 rfl rfl rfl rfl rfl rfl rfl ⟨rfl, rfl, rfl, rfl, rfl⟩ rfl rfl rfl rfl rfl (by kernel_rfl) Tryd.func3 (by kernel_rfl)
    (of_decide_eq_true (by kernel_rfl)) (by unfold Func.isWrapper; first | (rw [if_pos (by decide +kernel)]; kernel_rfl) | (rw [if_neg (by decide +kernel)]; exact ⟨rfl, rfl⟩))
    (fun os started H enc _ => lifted os started H enc)

theorem plain (f : FuncId) (fn : Func) (hf : Tryd.pinned.checked.prog.funcNamed "doorkeeper/doorkeeperlaw5.FunAll" = some f) (hfn : Tryd.pinned.checked.prog.funcs[f]? = some fn) :
    false = Tryd.pinned.checked.prog.looks [] ∧ ∀ (j : Nat) t, fn.params[j]? = some t → Tryd.pinned.checked.prog.wantsStandIn t = false := by
  obtain rfl : f = 3 := Option.some.inj ((show Tryd.prog.funcNamed "doorkeeper/doorkeeperlaw5.FunAll" = some 3 by kernel_rfl).symm.trans hf) |>.symm
  obtain rfl : fn = Tryd.f3 := (Option.some.inj (Tryd.func3.symm.trans hfn)).symm
  refine ⟨by kernel_rfl, fun j t ht => ?_⟩
  rw [Tryd.params3] at ht
  have ht : t = 9 ∨ t = 22 := by simpa using Array.mem_of_getElem? ht
  rcases ht with rfl | rfl
  · exact (show Tryd.prog.wantsStandIn 9 = false by kernel_rfl)
  · exact (show Tryd.prog.wantsStandIn 22 = false by kernel_rfl)

theorem card : Rows.FunAllCardSaid :=
  Claim7.holds_tied_plain_at .later [] _ _ _ _ said (fun _ h => by cases h) (by kernel_rfl) (fun _ h => by cases h) funAll_row_tie rfl ⟨rfl, rfl⟩ (by kernel_rfl) rfl plain (by kernel_rfl)
#print axioms card
end Go.Proofs.YtoaachefdbepiaaDoor.funAllDone
