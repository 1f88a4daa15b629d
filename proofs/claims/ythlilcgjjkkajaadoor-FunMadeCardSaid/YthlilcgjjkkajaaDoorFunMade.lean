/- 'FunMade': for all numbers the law of functions with arguments made by numbers holds; what was handed in reads as before. Conditions: none of its own; the listed package-level variables hold what the program's own text lays (tied). -/
import Derived.Test.YthlilcgjjkkajaaDoorRfL
import Derived.Test.YthlilcgjjkkajaaDoorValR
import Derived.Test.YthlilcgjjkkajaaDoorValMa
import Derived.Lib.ItoaLen
import Derived.Test.YthlilcgjjkkajaaDoorFunJ
import Derived.Test.YthlilcgjjkkajaaDoorFunK
import Derived.Test.YthlilcgjjkkajaaDoorValMe
import Derived.Test.YthlilcgjjkkajaaDoorU8s
import Derived.Test.YthlilcgjjkkajaaDoorValMd
import Derived.Test.YthlilcgjjkkajaaDoorCards
import Derived.Test.YthlilcgjjkkajaaDoorTie
import Derived.ProofKit
import Derived.LaidMore
import Derived.OpenShut
import Derived.ShutString
import Derived.ChangeOld
import Derived.Stop.Joined
import Derived.Lib.LaidTab
import Derived.Stop.LaidErr
import Derived.Deep.Matrix
import Derived.Carry
namespace Go.Proofs.YthlilcgjjkkajaaDoor
open Go.RowKit
set_option linter.unusedVariables false
set_option linter.unusedSimpArgs false

theorem empty_bytes {b : ByteArray} (h : b.toList.isEmpty = true) : b = ⟨#[]⟩ := by
  obtain ⟨⟨l⟩⟩ := b
  have : (⟨⟨l⟩⟩ : ByteArray).toList = l := by simp
  rw [this] at h
  cases l with
  | nil => rfl
  | cons a t => cases h
structure Parts (v : VL) : Prop where
  kinds : v.kind = 1 ∨ v.kind = 2 ∨ v.kind = 3 ∨ v.kind = 4
  text : v.text.size ≤ 400
  other : v.kind ≠ 2 → v.text = ⟨#[]⟩
  kids : v.kids.length ≤ 64
  none : v.kind ≠ 4 → v.kids = []
theorem leaf_parts {v : VL} (h : leafB v = true) : Parts v := by
  unfold leafB at h
  split at h
  · rename_i hk
    simp only [Bool.and_eq_true, beq_iff_eq] at h
    have e := empty_bytes h.1
    exact ⟨.inl hk, by rw [e]; decide, fun _ => e, by omega, fun _ => List.eq_nil_of_length_eq_zero h.2⟩
  · split at h
    · rename_i hk
      simp only [Bool.and_eq_true, beq_iff_eq, decide_eq_true_eq] at h
      exact ⟨.inr (.inl hk), h.1.2, fun h => absurd hk h, by omega, fun _ => List.eq_nil_of_length_eq_zero h.2⟩
    · split at h
      · rename_i hk
        simp only [Bool.and_eq_true, beq_iff_eq] at h
        have e := empty_bytes h.1.2
        exact ⟨.inr (.inr (.inl hk)), by rw [e]; decide, fun _ => e, by omega, fun _ => List.eq_nil_of_length_eq_zero h.2⟩
      · cases h
theorem may_parts {d : Nat} {v : VL} (h : mayB d v = true) : Parts v := by
  cases d with
  | zero => exact leaf_parts h
  | succ d =>
    unfold mayB at h
    split at h
    · rename_i hk
      simp only [Bool.and_eq_true, decide_eq_true_eq, beq_iff_eq] at h
      have e := empty_bytes h.1.1.2
      exact ⟨.inr (.inr (.inr hk)), by rw [e]; decide, fun _ => e, h.1.2, fun n => absurd hk n⟩
    · exact leaf_parts h
/-- An argument that may be. -/
structure ArgOK (v : VL) : Prop where
  may : mayB 64 v = true
  num : I64 v.num
  nums : ∀ u ∈ v.kids, I64 u.num
theorem may_list (d : Nat) (l : List VL) : mayB (d + 1) (vlist l) = (decide (l.length ≤ 64) && l.all (mayB d)) := by
  show (if (4 : Int) = 4 then (0 : Int) == 0 && (⟨#[]⟩ : ByteArray).toList.isEmpty && decide (l.length ≤ 64) && l.all (mayB d) else _) = _
  rw [if_pos rfl, empty_text]; simp
theorem may_cat {l : List VL} (h : ∀ v ∈ l, ArgOK v) (hl : (catV l).length ≤ 64) : mayB 64 (vlist (catV l)) = true := by
  rw [may_list, decide_eq_true hl]
  simp only [Bool.true_and, List.all_eq_true]
  intro u hu
  obtain ⟨v, hv, huv⟩ := List.mem_flatMap.1 hu
  exact (may_kids (h v hv).may).2 u huv
theorem may_str {s : ByteArray} (h : s.size ≤ 400) : mayB 64 (vstr s) = true := by
  show (if (2 : Int) = 4 then _ else leafB (vstr s)) = true
  rw [if_neg (by decide)]
  simp [leafB, vstr, VL.kind, VL.num, VL.text, VL.kids, h]
theorem may_bool (b : Bool) : mayB 64 (vbool b) = true := by
  show (if (3 : Int) = 4 then _ else leafB (vbool b)) = true
  rw [if_neg (by decide)]
  cases b <;> simp [leafB, vbool, boolN, VL.kind, VL.num, VL.text, VL.kids]
theorem fit_many {k : Int} {l : List VL} (h : fitAllB [k] l = true) : ∀ v ∈ l, fitsB k v = true := by
  intro v hv
  obtain ⟨i, hi, rfl⟩ := List.mem_iff_getElem.1 hv
  unfold fitAllB at h
  rw [List.all_eq_true] at h
  have := h i (List.mem_range.2 hi)
  rw [List.getD_eq_getElem?_getD, List.getElem?_eq_getElem hi] at this
  simpa [kindAt] using this
theorem fit_two {k j : Int} {a b : VL} (h : fitAllB [k, j] [a, b] = true) : fitsB k a = true ∧ fitsB j b = true := by
  unfold fitAllB at h
  rw [List.all_eq_true] at h
  exact ⟨by simpa [kindAt] using h 0 (by simp), by simpa [kindAt] using h 1 (by simp)⟩
theorem fits1 {v : VL} (h : fitsB 1 v = true) : v.kind = 1 := by simpa [fitsB] using h
theorem fits2 {v : VL} (h : fitsB 2 v = true) : v.kind = 2 := by simpa [fitsB] using h
theorem fits3 {v : VL} (h : fitsB 3 v = true) : v.kind = 4 := by simpa [fitsB] using h
theorem fits4 {v : VL} (h : fitsB 4 v = true) : v.kind = 4 ∧ ∀ u ∈ v.kids, u.kind = 1 := by
  simp only [fitsB, allB] at h
  simpa using h
theorem fits5 {v : VL} (h : fitsB 5 v = true) : v.kind = 4 ∧ allB 2 v.kids = true := by
  simp only [fitsB] at h
  simpa using h
theorem fits6 {v : VL} (h : fitsB 6 v = true) : v.kind = 4 ∨ v.kind = 2 := by
  simpa [fitsB] using h
theorem isMin_ex : ∀ (xs : List Int), 0 < xs.length → ∃ m, IsMin m xs := by
  intro xs
  induction xs with
  | nil => intro h; simp at h
  | cons x t ih =>
    intro _
    cases t with
    | nil => exact ⟨x, by simp [IsMin]⟩
    | cons y t =>
      obtain ⟨m, hm, hl⟩ := ih (by simp)
      by_cases h : x < m
      · exact ⟨x, by simp, fun z hz => by
          rcases List.mem_cons.1 hz with rfl | hz
          · omega
          · have := hl z hz; omega⟩
      · exact ⟨m, List.mem_cons_of_mem _ hm, fun z hz => by
          rcases List.mem_cons.1 hz with rfl | hz
          · omega
          · exact hl z hz⟩
theorem isMax_ex : ∀ (xs : List Int), 0 < xs.length → ∃ m, IsMax m xs := by
  intro xs
  induction xs with
  | nil => intro h; simp at h
  | cons x t ih =>
    intro _
    cases t with
    | nil => exact ⟨x, by simp [IsMax]⟩
    | cons y t =>
      obtain ⟨m, hm, hl⟩ := ih (by simp)
      by_cases h : m < x
      · exact ⟨x, by simp, fun z hz => by
          rcases List.mem_cons.1 hz with rfl | hz
          · omega
          · have := hl z hz; omega⟩
      · exact ⟨m, List.mem_cons_of_mem _ hm, fun z hz => by
          rcases List.mem_cons.1 hz with rfl | hz
          · omega
          · exact hl z hz⟩
theorem sum_may : ∀ (xs : List Int) (t : Int), (sumR t xs).1.kids = [] ∧ ((sumR t xs).2 = 0 → mayB 64 (sumR t xs).1 = true) := by
  intro xs
  induction xs with
  | nil => intro t; exact ⟨rfl, fun _ => may_num 64 t⟩
  | cons x xs ih =>
    intro t
    unfold sumR
    split
    · exact ih _
    · exact ⟨rfl, fun h => absurd h (by decide)⟩
theorem join_may (xs : List ByteArray) : (joinR xs).1.kids = [] ∧ ((joinR xs).2 = 0 → mayB 64 (joinR xs).1 = true) := by
  unfold joinR
  split
  · rename_i h
    exact ⟨rfl, fun _ => may_str (by rw [catB_size]; exact h)⟩
  · exact ⟨rfl, fun h => absurd h (by decide)⟩
theorem abs_may (n : Int) : (absR n).1.kids = [] ∧ ((absR n).2 = 0 → mayB 64 (absR n).1 = true) := by
  unfold absR
  split
  · unfold numR
    split
    · exact ⟨rfl, fun _ => may_num 64 _⟩
    · rename_i h
      exact ⟨rfl, fun e => absurd e h⟩
  · exact ⟨rfl, fun _ => may_num 64 _⟩
theorem text_size {v : VL} (hp : Parts v) (hi : I64 v.num) : (textT v).1.size ≤ 400 := by
  unfold textT
  split
  · have h := Lib.itoa_length_le v.num hi.1 hi.2
    have e : (itoaB v.num).size = (Lib.itoa v.num).length := by simp [itoaB, ByteArray.size]
    show (itoaB v.num).size ≤ 400
    omega
  · split
    · exact hp.text
    · split
      · show (boolT (v.num == 1)).size ≤ 400
        rcases bool_bytes with ⟨h1, h2⟩
        cases v.num == 1
        · rw [h2]; decide
        · rw [h1]; decide
      · decide
theorem text_may {s : ByteArray} (h : s.size ≤ 400) (c : Int) : (textR s c).1.kids = [] ∧ ((textR s c).2 = 0 → mayB 64 (textR s c).1 = true) := by
  unfold textR
  split
  · exact ⟨rfl, fun _ => may_str h⟩
  · rename_i h2
    exact ⟨rfl, fun e => absurd e h2⟩
end Go.Proofs.YthlilcgjjkkajaaDoor
namespace Go.Proofs.YthlilcgjjkkajaaDoor
open Go.RowKit
set_option linter.unusedVariables false
set_option linter.unusedSimpArgs false

/-- Both answer this. -/
def Alike (s : ByteArray) (lv : Value) (w : World) : Prop :=
  ∃ (D : Nat) (r : VL × Int), (∀ W, Below w.heap.size w W → Calls Tryd.prog 6 #[.string s, lv] W (Tells D r W)) ∧ (∀ W, Below w.heap.size w W → Calls Tryd.prog 7 #[.string s, lv] W (DocR D r W)) ∧ (r.2 = 0 → mayB 64 r.1 = true)
section
variable (w : World)
theorem alike_of {s : ByteArray} {lv : Value} (r : VL × Int) (hk : r.1.kids = []) (hf : ∀ W, Below w.heap.size w W → Calls Tryd.prog 6 #[.string s, lv] W (Told r W))
    (hd : ∀ W, Below w.heap.size w W → Calls Tryd.prog 7 #[.string s, lv] W (Doc r W)) (hm : r.2 = 0 → mayB 64 r.1 = true) : Alike s lv w :=
  ⟨0, r, fun W hW => (hf W hW).mono fun e w' h => ⟨_, h.1, by rw [hk]; exact RowRd.nil _ _ _ _, h.2⟩, fun W hW => (hd W hW).mono fun e w' h => doc_nil h hk, hm⟩
theorem alike_name {s : ByteArray} {ks : List Int} {more : Bool} {F : FuncId} (hN : ∀ W, Calls Tryd.prog 13 #[.string s] W (Named ks more F W)) (hk : Takes ks) (D : Nat) (l : List VL) (lv : Value) (h : RowRd w D l lv)
    (h1 : checkR ks more l = 1 → ∀ W, Below w.heap.size w W → Calls Tryd.prog 7 #[.string s, lv] W (Doc (vz, 1) W))
    (h7 : ¬ (l.length < ks.length ∨ (ks.length < l.length ∧ more = false)) → fitAllB ks l = false → ∀ W, Below w.heap.size w W → Calls Tryd.prog 7 #[.string s, lv] W (Doc (vz, 7) W))
    (hg : ¬ (l.length < ks.length ∨ (ks.length < l.length ∧ more = false)) → fitAllB ks l = true → checkR ks more l = 0 → Alike s lv w) : Alike s lv w := by
  by_cases ha : l.length < ks.length ∨ (ks.length < l.length ∧ more = false)
  · have hc : checkR ks more l = 1 := if_pos ha
    exact alike_of w (vz, 1) rfl (fun W hW => call_bad W s ks more F hN hk D l lv (h.below hW) 1 hc (by decide)) (h1 hc) (fun e => absurd e (by decide))
  · cases hb : fitAllB ks l
    · have hc : checkR ks more l = 7 := by unfold checkR; rw [if_neg ha, hb]; rfl
      exact alike_of w (vz, 7) rfl (fun W hW => call_bad W s ks more F hN hk D l lv (h.below hW) 7 hc (by decide)) (h7 ha hb) (fun e => absurd e (by decide))
    · exact hg ha hb (by unfold checkR; rw [if_neg ha, hb]; rfl)
theorem run_join (a : Array Value) (W : World) : (callFunc 35 a).run Tryd.prog W = .ok (.enter 35 a) W := run_enter Tryd.func35 (by kernel_rfl) (by kernel_rfl) a W
theorem run_concat (a : Array Value) (W : World) : (callFunc 34 a).run Tryd.prog W = .ok (.enter 34 a) W := run_enter Tryd.func34 (by kernel_rfl) (by kernel_rfl) a W
theorem run_count (a : Array Value) (W : World) : (callFunc 36 a).run Tryd.prog W = .ok (.enter 36 a) W := run_enter Tryd.func36 (by kernel_rfl) (by kernel_rfl) a W
theorem alike_none (s : ByteArray) (hs : noName s) (lao : Option Addr) (ln lcap : Nat) : Alike s (.slice lao ln lcap) w :=
  alike_of w (vz, 2) rfl (fun W hW => call_none W s hs lao ln lcap) (fun W hW => rcall_none W s hs lao ln lcap) (fun e => absurd e (by decide))

theorem arg_many {l : List VL} {ks : List Int} {p : Prop} (ha : ¬ (l.length < ks.length ∨ p)) : ks.length ≤ l.length := Nat.not_lt.1 fun h => ha (.inl h)
theorem arg_one {l : List VL} {ks : List Int} (ha : ¬ (l.length < ks.length ∨ (ks.length < l.length ∧ false = false))) : l.length = ks.length :=
  Nat.le_antisymm (Nat.not_lt.1 fun h => ha (.inr ⟨h, rfl⟩)) (arg_many ha)
theorem len_one : ∀ {l : List VL} (h : l.length = 1), ∃ v, l = [v] := by
  intro l h
  match l, h with
  | [], h => simp at h
  | [v], _ => exact ⟨v, rfl⟩
  | _ :: _ :: _, h => simp at h
theorem len_two : ∀ {l : List VL} (h : l.length = 2), ∃ a b, l = [a, b] := by
  intro l h
  match l, h with
  | [], h => simp at h
  | [_], h => simp at h
  | [a, b], _ => exact ⟨a, b, rfl⟩
  | _ :: _ :: _ :: _, h => simp at h
theorem alike_min (D : Nat) (l : List VL) (lv : Value) (h : RowRd w D l lv) (hl : l.length ≤ 100) (hA : ∀ v ∈ l, ArgOK v) : Alike ⟨#[109, 105, 110]⟩ lv w := by
  have hkl : ∀ x ∈ l, x.kids.length ≤ 1000 := fun x hx => by have := (may_parts (hA x hx).may).kids; omega
  have hnk : ∀ x ∈ l, x.kind ≠ 4 → x.kids = [] := fun x hx => (may_parts (hA x hx).may).none
  obtain ⟨lao, lcap, rfl⟩ := h.shape
  refine alike_name w fnamed_min (takes_one 1 (by omega)) D l _ h (fun hc W hW => rcall_arg_min W l lao lcap (by omega) hc) (fun ha hf W hW => rcall_type_min W D l _ (h.below hW) (by omega) hkl hnk (arg_many ha) hf) fun ha hf hc => ?_
  have hk := fun v hv => fits1 (fit_many hf v hv)
  have h0 : 0 < l.length := arg_many ha
  obtain ⟨m, hm⟩ := isMin_ex (l.map VL.num) (by rw [List.length_map]; exact h0)
  exact alike_of w (vnum m, 0) rfl (fun W hW => call_min W D l _ (h.below hW) h0 (by omega) hk m hm) (fun W hW => rcall_min W D l _ (h.below hW) hkl hnk hf h0 (by omega) m hm) (fun _ => may_num 64 m)
theorem alike_max (D : Nat) (l : List VL) (lv : Value) (h : RowRd w D l lv) (hl : l.length ≤ 100) (hA : ∀ v ∈ l, ArgOK v) : Alike ⟨#[109, 97, 120]⟩ lv w := by
  have hkl : ∀ x ∈ l, x.kids.length ≤ 1000 := fun x hx => by have := (may_parts (hA x hx).may).kids; omega
  have hnk : ∀ x ∈ l, x.kind ≠ 4 → x.kids = [] := fun x hx => (may_parts (hA x hx).may).none
  obtain ⟨lao, lcap, rfl⟩ := h.shape
  refine alike_name w fnamed_max (takes_one 1 (by omega)) D l _ h (fun hc W hW => rcall_arg_max W l lao lcap (by omega) hc) (fun ha hf W hW => rcall_type_max W D l _ (h.below hW) (by omega) hkl hnk (arg_many ha) hf) fun ha hf hc => ?_
  have hk := fun v hv => fits1 (fit_many hf v hv)
  have h0 : 0 < l.length := arg_many ha
  obtain ⟨m, hm⟩ := isMax_ex (l.map VL.num) (by rw [List.length_map]; exact h0)
  exact alike_of w (vnum m, 0) rfl (fun W hW => call_max W D l _ (h.below hW) h0 (by omega) hk m hm) (fun W hW => rcall_max W D l _ (h.below hW) hkl hnk hf h0 (by omega) m hm) (fun _ => may_num 64 m)
theorem alike_sum (D : Nat) (l : List VL) (lv : Value) (h : RowRd w D l lv) (hl : l.length ≤ 100) (hA : ∀ v ∈ l, ArgOK v) : Alike ⟨#[115, 117, 109]⟩ lv w := by
  have hkl : ∀ x ∈ l, x.kids.length ≤ 1000 := fun x hx => by have := (may_parts (hA x hx).may).kids; omega
  have hnk : ∀ x ∈ l, x.kind ≠ 4 → x.kids = [] := fun x hx => (may_parts (hA x hx).may).none
  obtain ⟨lao, lcap, rfl⟩ := h.shape
  refine alike_name w fnamed_sum (takes_one 4 (by omega)) D l _ h (fun hc W hW => rcall_arg_sum W l lao lcap (by omega) hc) (fun ha hf W hW => rcall_type_sum W D l _ (h.below hW) (by omega) hkl hnk (⟨Nat.le_of_eq (arg_one ha).symm, Nat.le_of_eq (arg_one ha)⟩) hf) fun ha hf hc => ?_
  obtain ⟨v, rfl⟩ := len_one (arg_one ha)
  have hp := hA v (by simp)
  obtain ⟨h4, hk⟩ := fits4 (fit_many hf v (by simp))
  exact alike_of w _ (sum_may _ _).1 (fun W hW => call_sum W D v _ (h.below hW) h4 (fun u hu => ⟨hk u hu, hp.nums u hu⟩)) (fun W hW => rcall_sum W D v _ (h.below hW) hkl hnk hf hp.nums) (sum_may _ _).2
theorem alike_len (D : Nat) (l : List VL) (lv : Value) (h : RowRd w D l lv) (hl : l.length ≤ 100) (hA : ∀ v ∈ l, ArgOK v) : Alike ⟨#[108, 101, 110]⟩ lv w := by
  have hkl : ∀ x ∈ l, x.kids.length ≤ 1000 := fun x hx => by have := (may_parts (hA x hx).may).kids; omega
  have hnk : ∀ x ∈ l, x.kind ≠ 4 → x.kids = [] := fun x hx => (may_parts (hA x hx).may).none
  obtain ⟨lao, lcap, rfl⟩ := h.shape
  refine alike_name w fnamed_len (takes_one 6 (by omega)) D l _ h (fun hc W hW => rcall_arg_len W l lao lcap (by omega) hc) (fun ha hf W hW => rcall_type_len W D l _ (h.below hW) (by omega) hkl hnk (⟨Nat.le_of_eq (arg_one ha).symm, Nat.le_of_eq (arg_one ha)⟩) hf) fun ha hf hc => ?_
  obtain ⟨v, rfl⟩ := len_one (arg_one ha)
  have hp := may_parts (hA v (by simp)).may
  have h6 := fits6 (fit_many hf v (by simp))
  have e : (if v.kind = 2 then (v.text.size : Int) else (v.kids.length : Int)) = (v.kids.length : Int) + (v.text.size : Int) := by
    by_cases h2 : v.kind = 2
    · rw [if_pos h2, hp.none (by omega)]; simp
    · have z : (⟨#[]⟩ : ByteArray).size = 0 := rfl
      rw [if_neg h2, hp.other h2, z]; simp
  have ht := hp.text
  exact alike_of w (vnum ((v.kids.length : Int) + (v.text.size : Int)), 0) rfl (fun W hW => by have := call_len W D v _ (h.below hW) (by omega) h6.symm; rw [e] at this; exact this) (fun W hW => rcall_len W D v _ (h.below hW) hkl hnk hf (by omega)) (fun _ => may_num 64 _)
theorem alike_concat (D : Nat) (l : List VL) (lv : Value) (h : RowRd w D l lv) (hl : l.length ≤ 100) (hA : ∀ v ∈ l, ArgOK v) : Alike ⟨#[99, 111, 110, 99, 97, 116]⟩ lv w := by
  have hkl : ∀ x ∈ l, x.kids.length ≤ 1000 := fun x hx => by have := (may_parts (hA x hx).may).kids; omega
  have hnk : ∀ x ∈ l, x.kind ≠ 4 → x.kids = [] := fun x hx => (may_parts (hA x hx).may).none
  obtain ⟨lao, lcap, rfl⟩ := h.shape
  refine alike_name w fnamed_concat (takes_one 3 (by omega)) D l _ h (fun hc W hW => rcall_arg_concat W l lao lcap (by omega) hc) (fun ha hf W hW => rcall_type_concat W D l _ (h.below hW) (by omega) hkl hnk (arg_many ha) hf) fun ha hf hc => ?_
  have hk := fun v hv => fits3 (fit_many hf v hv)
  have h0 : 0 < l.length := arg_many ha
  by_cases h64 : (catV l).length ≤ 64
  · have hm := may_cat hA h64
    have e : D - 1 - 1 + 1 - 1 + 1 = D - 1 - 1 + 1 := by omega
    exact ⟨D - 1 - 1 + 1, (vlist (catV l), 0), (fun W hW => (call_gives W _ [3] true 34 fnamed_concat (takes_one 3 (by omega)) D l _ (h.below hW) hc _ _ _ _ _ run_concat fun V hV =>
        (fconcat V D l _ ((h.below hW).below hV) (by omega) (fun v hv => hkl v hv)).mono fun e w' hh => hh.1 hm).mono fun e w' hg => tells_gives (u := vlist (catV l)) hg),
      (fun W hW => (rcall_concat W D l _ (h.below hW) hkl hnk hf h0 (by omega) (by omega) (fun _ => deep_may 64 _ hm)).mono fun e' w' hh => by rw [e] at hh; exact hh.1 h64), (fun _ => hm)⟩
  · have hb : mayB 64 (vlist (catV l)) = false := may_long (by omega)
    exact alike_of w (vz, 4) rfl (fun W hW => call_told W _ [3] true 34 fnamed_concat (takes_one 3 (by omega)) D l _ (h.below hW) hc _ _ _ _ run_concat fun V hV =>
        (fconcat V D l _ ((h.below hW).below hV) (by omega) (fun v hv => hkl v hv)).mono fun e w' hh => hh.2 hb)
      (fun W hW => (rcall_concat W D l _ (h.below hW) hkl hnk hf h0 (by omega) (by omega) (fun e => absurd e h64)).mono fun e w' hh => hh.2 (by omega)) (fun e => absurd e (by decide))
theorem alike_join (D : Nat) (l : List VL) (lv : Value) (h : RowRd w D l lv) (hl : l.length ≤ 100) (hA : ∀ v ∈ l, ArgOK v) : Alike ⟨#[106, 111, 105, 110]⟩ lv w := by
  have hkl : ∀ x ∈ l, x.kids.length ≤ 1000 := fun x hx => by have := (may_parts (hA x hx).may).kids; omega
  have hnk : ∀ x ∈ l, x.kind ≠ 4 → x.kids = [] := fun x hx => (may_parts (hA x hx).may).none
  obtain ⟨lao, lcap, rfl⟩ := h.shape
  refine alike_name w fnamed_join (takes_two 2 5 (by omega) (by omega)) D l _ h (fun hc W hW => rcall_arg_join W l lao lcap (by omega) hc) (fun ha hf W hW => rcall_type_join W D l _ (h.below hW) (by omega) hkl hnk (⟨Nat.le_of_eq (arg_one ha).symm, Nat.le_of_eq (arg_one ha)⟩) hf) fun ha hf hc => ?_
  obtain ⟨a, b, rfl⟩ := len_two (arg_one ha)
  have hp := may_parts (hA a (by simp)).may
  have hs : ∀ v ∈ b.kids, v.text.size ≤ 1000 := fun v hv => by
    have := (may_parts ((may_kids (hA b (by simp)).may).2 v hv)).text
    omega
  have ht := hp.text
  exact alike_of w _ (join_may _).1 (fun W hW => call_told W _ [2, 5] false 35 fnamed_join (takes_two 2 5 (by omega) (by omega)) D [a, b] _ (h.below hW) hc _ _ _ _ run_join fun V hV => fjoin V D a b _ ((h.below hW).below hV) (hkl b (by simp)) (by omega) hs)
    (fun W hW => rcall_join W D a b _ (h.below hW) hkl hnk hf (by omega) hs) (join_may _).2
theorem alike_range (D : Nat) (l : List VL) (lv : Value) (h : RowRd w D l lv) (hl : l.length ≤ 100) (hA : ∀ v ∈ l, ArgOK v) : Alike ⟨#[114, 97, 110, 103, 101]⟩ lv w := by
  have hkl : ∀ x ∈ l, x.kids.length ≤ 1000 := fun x hx => by have := (may_parts (hA x hx).may).kids; omega
  have hnk : ∀ x ∈ l, x.kind ≠ 4 → x.kids = [] := fun x hx => (may_parts (hA x hx).may).none
  obtain ⟨lao, lcap, rfl⟩ := h.shape
  refine alike_name w fnamed_range (takes_one 1 (by omega)) D l _ h (fun hc W hW => rcall_arg_range W l lao lcap (by omega) hc) (fun ha hf W hW => rcall_type_range W D l _ (h.below hW) (by omega) hkl hnk (⟨Nat.le_of_eq (arg_one ha).symm, Nat.le_of_eq (arg_one ha)⟩) hf) fun ha hf hc => ?_
  obtain ⟨v, rfl⟩ := len_one (arg_one ha)
  have hk := fits1 (fit_many hf v (by simp))
  have hi := (hA v (by simp)).num
  by_cases hb : v.num < 0 ∨ 64 < v.num
  · exact alike_of w (vz, if v.num < 0 then 1 else 4) rfl (fun W hW => call_told W _ [1] false 36 fnamed_range (takes_one 1 (by omega)) D [v] _ (h.below hW) hc _ _ _ _ run_count fun V hV => fcount_bad V D v _ ((h.below hW).below hV) hb)
      (fun W hW => rcall_range_bad W D v _ (h.below hW) hkl hnk hf hi hb _ rfl) (fun e => by exfalso; revert e; show (if v.num < 0 then (1 : Int) else 4) = 0 → False; split <;> decide)
  · obtain ⟨n, hn⟩ : ∃ n : Nat, v.num = (n : Int) := ⟨v.num.toNat, by omega⟩
    have h64 : n ≤ 64 := by omega
    exact ⟨1, (vlist ((upTo n).map vnum), 0), fun W hW => (call_gives W _ [1] false 36 fnamed_range (takes_one 1 (by omega)) D [v] _ (h.below hW) hc _ _ _ _ _ run_count fun V hV => fcount_ok V D v _ ((h.below hW).below hV) n hn h64).mono fun e w' hg => tells_gives (u := vlist ((upTo n).map vnum)) hg,
      fun W hW => rcall_range_ok W D v _ (h.below hW) hkl hnk hf n hn h64, fun _ => may_nums (by rw [upTo_len]; exact h64)⟩
theorem alike_abs (D : Nat) (l : List VL) (lv : Value) (h : RowRd w D l lv) (hl : l.length ≤ 100) (hA : ∀ v ∈ l, ArgOK v) : Alike ⟨#[97, 98, 115]⟩ lv w := by
  have hkl : ∀ x ∈ l, x.kids.length ≤ 1000 := fun x hx => by have := (may_parts (hA x hx).may).kids; omega
  have hnk : ∀ x ∈ l, x.kind ≠ 4 → x.kids = [] := fun x hx => (may_parts (hA x hx).may).none
  obtain ⟨lao, lcap, rfl⟩ := h.shape
  refine alike_name w fnamed_abs (takes_one 1 (by omega)) D l _ h (fun hc W hW => rcall_arg_abs W l lao lcap (by omega) hc) (fun ha hf W hW => rcall_type_abs W D l _ (h.below hW) (by omega) hkl hnk (⟨Nat.le_of_eq (arg_one ha).symm, Nat.le_of_eq (arg_one ha)⟩) hf) fun ha hf hc => ?_
  obtain ⟨v, rfl⟩ := len_one (arg_one ha)
  have hk := fits1 (fit_many hf v (by simp))
  have hi := (hA v (by simp)).num
  exact alike_of w _ (abs_may _).1 (fun W hW => call_abs W D v _ (h.below hW) hk hi) (fun W hW => rcall_abs W D v _ (h.below hW) hkl hnk hf hi) (abs_may _).2
theorem alike_has (D : Nat) (l : List VL) (lv : Value) (h : RowRd w D l lv) (hl : l.length ≤ 100) (hA : ∀ v ∈ l, ArgOK v) : Alike ⟨#[104, 97, 115]⟩ lv w := by
  have hkl : ∀ x ∈ l, x.kids.length ≤ 1000 := fun x hx => by have := (may_parts (hA x hx).may).kids; omega
  have hnk : ∀ x ∈ l, x.kind ≠ 4 → x.kids = [] := fun x hx => (may_parts (hA x hx).may).none
  obtain ⟨lao, lcap, rfl⟩ := h.shape
  refine alike_name w fnamed_has (takes_two 3 0 (by omega) (by omega)) D l _ h (fun hc W hW => rcall_arg_has W l lao lcap (by omega) hc) (fun ha hf W hW => rcall_type_has W D l _ (h.below hW) (by omega) hkl hnk (⟨Nat.le_of_eq (arg_one ha).symm, Nat.le_of_eq (arg_one ha)⟩) hf) fun ha hf hc => ?_
  obtain ⟨a, b, rfl⟩ := len_two (arg_one ha)
  have h4 := fits3 (fit_two hf).1
  exact alike_of w (vbool (hasB D a.kids b), 0) rfl (fun W hW => call_has W D a b _ (h.below hW) h4) (fun W hW => rcall_has W D a b _ (h.below hW) hkl hnk hf) (fun _ => may_bool _)
theorem alike_text (D : Nat) (l : List VL) (lv : Value) (h : RowRd w D l lv) (hl : l.length ≤ 100) (hA : ∀ v ∈ l, ArgOK v) (ht : TabOK w) : Alike ⟨#[116, 101, 120, 116]⟩ lv w := by
  have hkl : ∀ x ∈ l, x.kids.length ≤ 1000 := fun x hx => by have := (may_parts (hA x hx).may).kids; omega
  have hnk : ∀ x ∈ l, x.kind ≠ 4 → x.kids = [] := fun x hx => (may_parts (hA x hx).may).none
  obtain ⟨lao, lcap, rfl⟩ := h.shape
  refine alike_name w fnamed_text (takes_one 0 (by omega)) D l _ h (fun hc W hW => rcall_arg_text W l lao lcap (by omega) hc) (fun ha hf W hW => rcall_type_text W D l _ (h.below hW) (by omega) hkl hnk (⟨Nat.le_of_eq (arg_one ha).symm, Nat.le_of_eq (arg_one ha)⟩) hf) fun ha hf hc => ?_
  obtain ⟨v, rfl⟩ := len_one (arg_one ha)
  have hi := (hA v (by simp)).num
  have hp := may_parts (hA v (by simp)).may
  have hs := text_size hp hi
  exact alike_of w _ (text_may hs _).1 (fun W hW => call_textB W D v _ (h.below hW) hi hp.kinds (ht.below hW)) (fun W hW => rcall_text W D v _ (h.below hW) hkl hnk hf hi hp.kinds hs) (text_may hs _).2
end
end Go.Proofs.YthlilcgjjkkajaaDoor
namespace Go.Proofs.YthlilcgjjkkajaaDoor
open Go.RowKit
set_option linter.unusedVariables false
set_option linter.unusedSimpArgs false

theorem len_zero' (l : List VL) : ((l.length : Int) == 0) = (l.length == 0) := by
  cases l with
  | nil => rfl
  | cons a t => simp; omega
def FieldsOf (d : Nat) : Prop := ∀ (D : Nat) (v : VL) (lv : Value) (w : World), RowRd w D v.kids lv → mayB d v = true →
  Calls Tryd.prog 29 #[.agg #[.int .i64 v.kind, .int .i64 v.num, .string v.text, lv]] w (Made (.bool true) w)
theorem FieldsOf.call {d : Nat} (h : FieldsOf d) (D : Nat) (v : VL) (lv : Value) (w : World) (hr : RowRd w D v.kids lv) (hm : mayB d v = true) :
  Calls Tryd.prog 29 #[.agg #[.int .i64 v.kind, .int .i64 v.num, .string v.text, lv]] w (Made (.bool true) w) := h D v lv w hr hm
section
variable (w : World)
set_option maxRecDepth 20000
set_option maxHeartbeats 4000000 in
theorem fields_leaf (v : VL) (lao : Option Addr) (lcap : Nat) (h : leafB v = true) :
    Calls Tryd.prog 29 #[.agg #[.int .i64 v.kind, .int .i64 v.num, .string v.text, .slice lao v.kids.length lcap]] w (Made (.bool true) w) := by
  unfold leafB at h
  split at h
  · rename_i hk
    have g1 : (v.kind == 1) = true := by simpa using hk
    rw [Bool.and_eq_true] at h
    obtain ⟨h1, h2⟩ := h
    rw [← len_zero'] at h2
    clear hk
    go_enter Tryd.func29, Tryd.ntmps29
    go_wp2_with fail
    go_ret
    exact ⟨rfl, below_al (Below.refl _ _) _⟩
  · rename_i hk1
    have g1 : (v.kind == 1) = false := by simpa using hk1
    split at h
    · rename_i hk
      have g2 : (v.kind == 2) = true := by simpa using hk
      simp only [Bool.and_eq_true, decide_eq_true_eq] at h
      obtain ⟨⟨h1, h2⟩, h3⟩ := h
      rw [← len_zero'] at h3
      have h4 : (v.text.size : Int) ≤ 400 := by omega
      clear hk hk1
      go_enter Tryd.func29, Tryd.ntmps29
      go_wp2_with fail
      go_ret
      exact ⟨rfl, below_al (Below.refl _ _) _⟩
    · rename_i hk2
      have g2 : (v.kind == 2) = false := by simpa using hk2
      split at h
      · rename_i hk
        have g3 : (v.kind == 3) = true := by simpa using hk
        simp only [Bool.and_eq_true] at h
        obtain ⟨⟨h1, h2⟩, h3⟩ := h
        rw [← len_zero'] at h3
        clear hk hk1 hk2
        cases e1 : (v.num == 0) <;> cases e2 : (v.num == 1)
        · rw [e1, e2] at h1; cases h1
        all_goals
          clear h1
          go_enter Tryd.func29, Tryd.ntmps29
          go_wp2_with fail
          go_ret
          exact ⟨rfl, below_al (Below.refl _ _) _⟩
      · cases h
set_option maxHeartbeats 4000000 in
theorem fields_list (d D : Nat) (IH : FieldsOf d) (v : VL) (lv : Value) (h : RowRd w D v.kids lv) (hk : v.kind = 4) (hm : mayB (d + 1) v = true) :
    Calls Tryd.prog 29 #[.agg #[.int .i64 v.kind, .int .i64 v.num, .string v.text, lv]] w (Made (.bool true) w) := by
  have g1 : (v.kind == 1) = false := by simp [hk]
  have g2 : (v.kind == 2) = false := by simp [hk]
  have g3 : (v.kind == 3) = false := by simp [hk]
  have g4 : (v.kind == 4) = true := by simp [hk]
  unfold mayB at hm
  rw [if_pos hk] at hm
  simp only [Bool.and_eq_true, decide_eq_true_eq, List.all_eq_true] at hm
  obtain ⟨⟨⟨h1, h2⟩, h3⟩, h4⟩ := hm
  have h5 : (v.kids.length : Int) ≤ 64 := by omega
  have HK := Lib.hid h4
  have H := Lib.hid h
  obtain ⟨ao, cap, rfl⟩ := h.shape
  have I := Lib.hid (fun W (u : VL) (lu : Value) (hu : RowRd W (D - 1) u.kids lu) (hm : mayB d u = true) => IH.call (D - 1) u lu W hu hm)
  clear h hk h4 IH
  go_enter Tryd.func29, Tryd.ntmps29
  go_wp2_with fail
  have X := Lib.hid (VBlk.new w v (.slice ao v.kids.length cap))
  have B0 := Lib.hid (show Kept w _ from below_al (Below.refl w.heap.size w) (.cells #[.int .i64 v.kind, .int .i64 v.num, .string v.text, .slice ao v.kids.length cap] 27))
  generalize hw1 : w.alloc (.cells #[.int .i64 v.kind, .int .i64 v.num, .string v.text, .slice ao v.kids.length cap] 27) = w1 at *
  have G0 := Lib.hid hw1
  clear hw1
  go_loopg [3] v.kids.length (fun m iv wr => ∃ (i : Nat), iv = .int .i64 i ∧ v.kids.length - i ≤ m ∧ i ≤ v.kids.length ∧ Below w1.heap.size w1 wr)
  case atStart => exact ⟨0, rfl, Nat.le_refl _, Nat.zero_le _, Below.refl _ _⟩
  case round =>
    obtain ⟨i, rfl, hm, hi, hb⟩ := hrel
    have HM := Lib.hid hm
    have BR := Lib.hid hb
    obtain ⟨x0, x1, x2, x3⟩ := (X.out.below hb).cells
    have xl := (X.out.below hb).lt
    clear hm hb
    by_cases hil : i < v.kids.length
    · obtain ⟨u, hu⟩ : ∃ u, v.kids[i]? = some u := ⟨_, List.getElem?_eq_getElem hil⟩
      obtain ⟨ao2, cap2, e2, hat⟩ := (H.out.below (below_tr B0.out BR.out)).at
      simp only [Value.slice.injEq, true_and] at e2
      obtain ⟨rfl, rfl⟩ := e2
      obtain ⟨gg, oo, lu, rfl, -, c0, c1, c2, c3, hr⟩ := hat i u hu
      obtain ⟨lao, lcap, rfl⟩ := hr.shape
      have CU := Lib.hid (I.out wr u _ hr (HK.out u (List.mem_of_getElem? hu)))
      clear hat hu hr
      go_wp2_with fail
      refine (CU.out).mono ?_
      rintro e w2 ⟨rfl, hb2⟩
      have B2 := Lib.hid (below_tr BR.out hb2)
      clear hb2 c0 c1 c2 c3 x0 x1 x2 x3 xl
      go_wp2_with fail
      go_roundg (v.kids.length - (i + 1))
      case rel => exact ⟨i + 1, rfl, Nat.le_refl _, hil, B2.out⟩
      case measure => have := HM.out; omega
    · have BZ := Lib.hid (below_tr B0.out BR.out)
      go_wp2_with fail
      go_ret
      exact ⟨rfl, BZ.out⟩
end
theorem rfields : ∀ d, FieldsOf d := by
  intro d
  induction d with
  | zero =>
    intro D v lv w h hm
    obtain ⟨lao, lcap, rfl⟩ := h.shape
    exact fields_leaf w v lao lcap hm
  | succ d ih =>
    intro D v lv w h hm
    by_cases hk : v.kind = 4
    · exact fields_list w d D ih v lv h hk hm
    · obtain ⟨lao, lcap, rfl⟩ := h.shape
      unfold mayB at hm
      rw [if_neg hk] at hm
      exact fields_leaf w v lao lcap hm
theorem rMayVal (w : World) (D : Nat) (v : VL) (lv : Value) (h : RowRd w D v.kids lv) (hm : mayB 64 v = true) :
    Calls Tryd.prog 10 #[.agg #[.int .i64 v.kind, .int .i64 v.num, .string v.text, lv]] w (Made (.bool true) w) := by
  have DD := Lib.hid (fun W (hW : Below w.heap.size w W) => (rdeep 64 (Nat.le_refl _)).call D v lv W (h.below hW))
  have FF := Lib.hid (fun W (hW : Below w.heap.size w W) => (rfields 64).call D v lv W (h.below hW) hm)
  have hd := deep_may 64 v hm
  obtain ⟨lao, lcap, rfl⟩ := h.shape
  clear h hm
  generalize deepI 64 v = dd at *
  go_enter Tryd.func10, Tryd.ntmps10
  go_wp2_with fail
  refine (DD.out _ (below_al (Below.refl _ _) _)).mono ?_
  rintro e w2 ⟨rfl, hb2⟩
  have B2 := Lib.hid (below_tr (below_al (Below.refl w.heap.size w) (.cells #[.int .i64 v.kind, .int .i64 v.num, .string v.text, .slice lao v.kids.length lcap] 27)) hb2)
  obtain ⟨x0, x1, x2, x3⟩ := ((VBlk.new w v (.slice lao v.kids.length lcap)).below hb2).cells
  clear hb2
  go_wp2_with fail
  refine (FF.out _ B2.out).mono ?_
  rintro e w3 ⟨rfl, hb3⟩
  have B3 := Lib.hid (below_tr B2.out hb3)
  clear hb3
  go_wp2_with fail
  go_ret
  exact ⟨rfl, B3.out⟩
end Go.Proofs.YthlilcgjjkkajaaDoor
namespace Go.Proofs.YthlilcgjjkkajaaDoor
open Go.RowKit
set_option linter.unusedVariables false
set_option linter.unusedSimpArgs false
/-- Rows of small numbers. -/
def RowsRd (w : World) (v : Value) (xss : List (List Int)) : Prop :=
  ∃ ao cap, v = .slice ao xss.length cap ∧ ∀ (j : Nat) (xs : List Int), xss[j]? = some xs → ∃ g o u, ao = some ⟨g, o, none⟩ ∧ w.cell? ⟨g, o + j, none⟩ = some u ∧ NumsRd .u8 w u xs ∧ CapOk u ∧ (∀ x ∈ xs, 0 ≤ x ∧ x ≤ 255) ∧ xs.length ≤ maxLen
/-- The numbers of what is made are small. -/
theorem make_small : ∀ (f : Nat) (s : ByteArray) (xs : List Int), (∀ x ∈ xs, 0 ≤ x ∧ x ≤ 255) → I64 (makeV f s xs).num := by
  have z : I64 0 := by unfold I64; omega
  intro f s xs h
  cases f with
  | zero => exact z
  | succ f =>
    cases xs with
    | nil => exact z
    | cons n l =>
      have hn := h n (by simp)
      rcases make_cases f s n l with h | h | h | h
      · rw [make_text f s n l h.1 h.2]; exact z
      · unfold makeV
        rw [if_neg (by omega), if_pos h]
        show I64 (n / 5 % 2)
        unfold I64; omega
      · unfold makeV
        rw [if_neg (by omega), if_neg (by omega), if_pos h]; exact z
      · have e : makeV (f + 1) s (n :: l) = vnum (n / 5 - 20) := by
          unfold makeV
          rcases h with ⟨h1, h2⟩ | h | h
          · rw [if_pos h1, if_neg (by omega)]
          · rw [if_neg (by omega), if_neg (by omega), if_neg (by omega)]
          · rw [if_neg (by omega), if_neg (by omega), if_neg (by omega)]
        rw [e]
        show I64 (n / 5 - 20)
        unfold I64; omega
theorem make_ok (s : ByteArray) (xs : List Int) (h : ∀ x ∈ xs, 0 ≤ x ∧ x ≤ 255) : ArgOK (makeV 20 s xs) := by
  refine ⟨make_may 20 64 (by omega) s xs, make_small 20 s xs h, ?_⟩
  cases xs with
  | nil => intro u hu; cases hu
  | cons n l =>
    intro u hu
    rcases make_cases 19 s n l with h1 | h1 | h1 | h1
    · rw [make_text 19 s n l h1.1 h1.2] at hu; cases hu
    · unfold makeV at hu
      rw [if_neg (by omega), if_pos h1] at hu; cases hu
    · unfold makeV at hu
      rw [if_neg (by omega), if_neg (by omega), if_pos h1] at hu
      simp only [vlist, VL.kids, List.mem_map] at hu
      obtain ⟨j, -, rfl⟩ := hu
      refine make_small 19 s _ fun x hx => ?_
      exact h x (List.mem_of_mem_drop (List.mem_of_mem_take (by unfold subL at hx; exact hx)))
    · have e : makeV 20 s (n :: l) = vnum (n / 5 - 20) := by
        unfold makeV
        rcases h1 with ⟨h1, h2⟩ | h | h
        · rw [if_pos h1, if_neg (by omega)]
        · rw [if_neg (by omega), if_neg (by omega), if_neg (by omega)]
        · rw [if_neg (by omega), if_neg (by omega), if_neg (by omega)]
      rw [e] at hu; cases hu
theorem args_next {w wr wm w6 : World} {f j gg cc lc ucap : Nat} {lo uao : Option Addr} {ps : List (VL × Value)} {u : VL} (hb : Below w.heap.size w wr) (hm : Below wr.heap.size wr wm)
    (ho : wr.ownsRow w.heap.size 27 4 (.slice lo j lc) j (rowCells ps))
    (hk : ∀ p ∈ ps, RowIn wr (fun b => w.heap.size ≤ b ∧ b < wr.heap.size ∧ (Value.slice lo j lc).ownBlock ≠ some b) f p.1.kids p.2)
    (hu : RowIn wm (fun g => wr.heap.size ≤ g) f u.kids (.slice uao u.kids.length ucap))
    (hg : wm.grownBy w6 (Value.slice lo j lc).ownBlock)
    (hown : w6.ownsRow w.heap.size 27 4 (.slice (some ⟨gg, 0, none⟩) (j + 1) cc) (j + 1) (rowCells ps ++ [.int .i64 u.kind, .int .i64 u.num, .string u.text, .slice uao u.kids.length ucap]))
    (hat : (Value.slice lo j lc).ownBlock = some gg ∨ gg = wm.heap.size + 1) (hlt : gg < w6.heap.size) :
    Below w.heap.size w w6 ∧ w6.ownsRow w.heap.size 27 4 (.slice (some ⟨gg, 0, none⟩) (j + 1) cc) (j + 1) (rowCells (ps ++ [(u, .slice uao u.kids.length ucap)])) ∧
    ∀ p ∈ ps ++ [(u, .slice uao u.kids.length ucap)], RowIn w6 (fun b => w.heap.size ≤ b ∧ b < w6.heap.size ∧ (Value.slice (some ⟨gg, 0, none⟩) (j + 1) cc).ownBlock ≠ some b) f p.1.kids p.2 := by
  have hn : ∀ b, (Value.slice lo j lc).ownBlock = some b → w.heap.size ≤ b ∧ b < wr.heap.size := fun b hb => World.ownsRow.lt ho b hb
  have s1 := hm.size
  have s2 := hg.size
  have low : ∀ b, b < w.heap.size → some b ≠ (Value.slice lo j lc).ownBlock := fun b h e => by have := (hn b e.symm).1; omega
  have keep : ∀ (b o : Nat) (z : Value), b < wm.heap.size → some b ≠ (Value.slice lo j lc).ownBlock → wm.cell? ⟨b, o, none⟩ = some z → w6.cell? ⟨b, o, none⟩ = some z := fun b o z h1 h2 hz =>
    (World.cell?_of_block (a := ⟨b, o, none⟩) (hg.block b h1 h2)).trans hz
  refine ⟨?_, ?_, ?_⟩
  · have hb2 := below_tr hb hm
    exact ⟨hg.os.trans hb2.os, hg.tape.trans hb2.tape, hg.output.trans hb2.output, by have := hb2.size; omega, fun b h => (hg.block b (by have := hb2.size; omega) (low b h)).trans (hb2.block b h)⟩
  · rw [rowCells_snoc]; exact hown
  · intro p hp
    have fresh : ∀ b, (b < wm.heap.size ∧ (Value.slice lo j lc).ownBlock ≠ some b) → (Value.slice (some ⟨gg, 0, none⟩) (j + 1) cc).ownBlock ≠ some b := fun b h e => by
      simp only [Value.ownBlock, Option.some.injEq] at e
      subst e
      rcases hat with h' | h'
      · exact h.2 h'
      · omega
    rcases List.mem_append.1 hp with hp | hp
    · refine RowIn.keep (fun b h => ⟨h.1, by omega, fresh b ⟨by omega, h.2.2⟩⟩) (fun b o z h hz => ?_) (hk p hp)
      exact keep b o z (by omega) (fun e => h.2.2 e.symm) ((hm.cell (p := ⟨b, o, none⟩) h.2.1).trans hz)
    · simp only [List.mem_singleton] at hp
      subst hp
      have hsz := hb.size
      exact RowIn.keep (fun b h => ⟨by have := h.1; omega, by have := h.2; omega, fresh b ⟨h.2, fun e => by have := (hn b e).2; have := h.1; omega⟩⟩)
        (fun b o z h hz => keep b o z h.2 (fun e => by have := (hn b e.symm).2; have := h.1; omega) hz) (rowIn_lt hu)
end Go.Proofs.YthlilcgjjkkajaaDoor
namespace Go.Proofs.YthlilcgjjkkajaaDoor
open Go.RowKit
set_option linter.unusedVariables false
set_option linter.unusedSimpArgs false
theorem names_alike (k : Nat) : ∃ nm : ByteArray, ([.string ⟨#[109, 105, 110]⟩, .string ⟨#[109, 97, 120]⟩, .string ⟨#[115, 117, 109]⟩, .string ⟨#[108, 101, 110]⟩, .string ⟨#[99, 111, 110, 99, 97, 116]⟩, .string ⟨#[106, 111, 105, 110]⟩, .string ⟨#[114, 97, 110, 103, 101]⟩, .string ⟨#[97, 98, 115]⟩, .string ⟨#[104, 97, 115]⟩, .string ⟨#[116, 101, 120, 116]⟩, .string ⟨#[110, 111, 112, 101]⟩] : List Value)[k % 11]? = some (.string nm) ∧
    ∀ (W : World) (D : Nat) (l : List VL) (lv : Value), RowRd W D l lv → l.length ≤ 100 → (∀ v ∈ l, ArgOK v) → TabOK W → Alike nm lv W := by
  have hk : k % 11 < 11 := Nat.mod_lt _ (by decide)
  generalize k % 11 = j at *
  match j, hk with
  | 0, _ => exact ⟨_, rfl, fun W D l lv h hl hA _ => alike_min W D l lv h hl hA⟩
  | 1, _ => exact ⟨_, rfl, fun W D l lv h hl hA _ => alike_max W D l lv h hl hA⟩
  | 2, _ => exact ⟨_, rfl, fun W D l lv h hl hA _ => alike_sum W D l lv h hl hA⟩
  | 3, _ => exact ⟨_, rfl, fun W D l lv h hl hA _ => alike_len W D l lv h hl hA⟩
  | 4, _ => exact ⟨_, rfl, fun W D l lv h hl hA _ => alike_concat W D l lv h hl hA⟩
  | 5, _ => exact ⟨_, rfl, fun W D l lv h hl hA _ => alike_join W D l lv h hl hA⟩
  | 6, _ => exact ⟨_, rfl, fun W D l lv h hl hA _ => alike_range W D l lv h hl hA⟩
  | 7, _ => exact ⟨_, rfl, fun W D l lv h hl hA _ => alike_abs W D l lv h hl hA⟩
  | 8, _ => exact ⟨_, rfl, fun W D l lv h hl hA _ => alike_has W D l lv h hl hA⟩
  | 9, _ => exact ⟨_, rfl, fun W D l lv h hl hA ht => alike_text W D l lv h hl hA ht⟩
  | 10, _ => exact ⟨_, rfl, fun W D l lv h _ _ _ => by obtain ⟨ao, cap, rfl⟩ := h.shape; exact alike_none W _ (by unfold noName; refine ⟨?_, ?_, ?_, ?_, ?_, ?_, ?_, ?_, ?_, ?_⟩ <;> kernel_rfl) _ _ _⟩
  | n + 11, h => exact absurd h (by omega)
section
variable (w : World)
set_option maxRecDepth 100000
set_option maxHeartbeats 8000000 in
theorem law_made5 (k : Nat) (v : Value) (xss : List (List Int)) (s : ByteArray) (hs : s.size ≤ maxLen) (hk : k ≤ 255) (h : RowsRd w v xss) (hl : xss.length ≤ maxLen) (ht : TabOK w) :
    Calls Tryd.prog 3 #[.int .u8 (k : Int), v, .string s] w (Made (.bool true) w) := by
  have H := Lib.hid h
  have HT := Lib.hid ht
  obtain ⟨ao, cap, rfl, hat⟩ := h
  unfold maxLen at hl hs
  clear hat ht
  by_cases h6 : 6 < xss.length
  · go_enter Tryd.func3, Tryd.ntmps3
    go_wp2_with fail
    refine (law_awake5 _).mono ?_
    rintro e w2 ⟨rfl, hb⟩
    go_wp2_with fail
    go_ret
    exact ⟨rfl, hb⟩
  · by_cases h100 : 100 < s.size
    · go_enter Tryd.func3, Tryd.ntmps3
      go_wp2_with fail
      refine (law_awake5 _).mono ?_
      rintro e w2 ⟨rfl, hb⟩
      go_wp2_with fail
      go_ret
      exact ⟨rfl, hb⟩
    · have hl6 : xss.length ≤ 6 := by omega
      have hs100 : s.size ≤ 100 := by omega
      obtain ⟨i0, hi0, hz0, hz1, hz2⟩ := info_parts info_val
      clear hl hs
      go_enter Tryd.func3, Tryd.ntmps3
      go_wp2_with fail
      clear h6 h100
      go_loopg [7, 8] xss.length (fun m rv iv wr => ∃ (i : Nat) (ps : List (VL × Value)), iv = .int .i64 i ∧ xss.length - i ≤ m ∧ i ≤ xss.length ∧ Hid (ps.length = i) ∧ Hid (∀ p ∈ ps, ArgOK p.1) ∧ Below w.heap.size w wr ∧ wr.ownsRow w.heap.size 27 4 rv i (rowCells ps) ∧ Hid (∀ p ∈ ps, RowIn wr (fun b => w.heap.size ≤ b ∧ b < wr.heap.size ∧ rv.ownBlock ≠ some b) 20 p.1.kids p.2))
      case atStart => exact ⟨0, [], rfl, Nat.le_refl _, Nat.zero_le _, Lib.hid rfl, Lib.hid (fun p hp => by cases hp), Below.refl _ _, own_none _ _ _ _, Lib.hid (fun p hp => by cases hp)⟩
      case round =>
        obtain ⟨i, ps, rfl, hm, hi, PL, PA, hb, ho, KI⟩ := hrel
        obtain ⟨rao, rcap, rfl⟩ := own_len ho
        have HM := Lib.hid hm
        have BR := Lib.hid hb
        have O := Lib.hid ho
        clear hm hb ho
        by_cases hil : i < xss.length
        · obtain ⟨xs, hx⟩ : ∃ xs, xss[i]? = some xs := ⟨_, List.getElem?_eq_getElem hil⟩
          obtain ⟨ao2, cap2, e2, hat⟩ := H.out
          simp only [Value.slice.injEq, true_and] at e2
          obtain ⟨rfl, rfl⟩ := e2
          obtain ⟨g, o, u0, rfl, c0, hn, hcap, h255, hlen⟩ := hat i xs hx
          replace c0 := hold BR.out c0
          obtain ⟨uo, uc, rfl⟩ := hn.shape
          unfold maxLen at hlen
          by_cases h12 : 12 < xs.length
          · clear hat hx hn hcap h255
            go_wp2_with fail
            refine (law_awake5 _).mono ?_
            rintro e w2 ⟨rfl, hb⟩
            have B2 := Lib.hid (below_tr BR.out hb)
            clear hb
            go_wp2_with fail
            go_ret
            exact ⟨rfl, B2.out⟩
          · have CM := Lib.hid ((vmake 20).call _ xs s wr (hn.below BR.out) hcap h255 (by omega) (by omega) hs100)
            have AO := Lib.hid (make_ok s xs h255)
            generalize makeV 20 s xs = u at *
            clear hat hx hn hcap h255
            go_wp2_with (first
              | (go_at_call 5; refine CM.out.mono ?_; rintro e wm ⟨lu, rfl, hin, hbm, -⟩; obtain ⟨uao, ucap, rfl⟩ := hin.rd.shape; have HIN := Lib.hid hin; have BM := Lib.hid hbm; clear hin hbm)
              | (at_builtin; refine wpList_append_lies _ rfl _ _ 24 rfl w.heap.size 27 i0 _ 4 56 Tryd.underlying24 hi0 hz0 hz1 hz2 rfl (by decide) (.slice rao i rcap) i (rowCells ps) rfl (World.ownsRow.alloc (own_below O.out BM.out) _) ⟨wm.heap.size, 0, none⟩ 1 1 [.int .i64 u.kind, .int .i64 u.num, .string u.text, .slice uao u.kids.length ucap] rfl rfl (news_new wm #[.int .i64 u.kind, .int .i64 u.num, .string u.text, .slice uao u.kids.length ucap] 27) (by simp [Value.oneCell']) (by omega) (by unfold maxLen; omega) (by omega) (by have := BR.out.size; have := BM.out.size; simp; omega) (wm.heap.size + 1) (by simp) ?_))
            intro gg cc w6 hown hgrow hat hlt
            have NX := Lib.hid (args_next BR.out BM.out O.out KI.out HIN.out (grown_trans (World.grownBy_alloc wm _ _) hgrow) hown hat hlt)
            clear hown hgrow hat hlt
            go_wp2_with fail
            go_roundg (xss.length - (i + 1))
            case rel => exact ⟨i + 1, ps ++ [(u, .slice uao u.kids.length ucap)], rfl, Nat.le_refl _, hil, Lib.hid (by rw [List.length_append, PL.out]; rfl), Lib.hid (fun p hp => by
              rcases List.mem_append.1 hp with hp | hp
              · exact PA.out p hp
              · simp only [List.mem_singleton] at hp; subst hp; exact AO.out), NX.out.1, NX.out.2.1, Lib.hid NX.out.2.2⟩
            case measure => have := HM.out; omega
        · have ei : i = xss.length := by omega
          subst ei
          have RD := Lib.hid (row_of_own (D := 20) (by rw [PL.out]; exact O.out) (by rw [PL.out]; unfold maxLen; omega) (fun p hp => (KI.out p hp).rd))
          have LA := Lib.hid (show ∀ v ∈ ps.map (·.1), ArgOK v from fun v hv => by obtain ⟨p, hp, rfl⟩ := List.mem_map.1 hv; exact PA.out p hp)
          have LL := Lib.hid (show (ps.map (·.1)).length = xss.length by rw [List.length_map]; exact PL.out)
          generalize ps.map (·.1) = l at *
          clear KI PA PL O H
          obtain ⟨nm, hnm, hal⟩ := names_alike k
          have BL := Lib.hid (below_al (Below.refl wr.heap.size wr) (.cells #[.string ⟨#[109, 105, 110]⟩, .string ⟨#[109, 97, 120]⟩, .string ⟨#[115, 117, 109]⟩, .string ⟨#[108, 101, 110]⟩, .string ⟨#[99, 111, 110, 99, 97, 116]⟩, .string ⟨#[106, 111, 105, 110]⟩, .string ⟨#[114, 97, 110, 103, 101]⟩, .string ⟨#[97, 98, 115]⟩, .string ⟨#[104, 97, 115]⟩, .string ⟨#[116, 101, 120, 116]⟩, .string ⟨#[110, 111, 112, 101]⟩] 9))
          obtain ⟨D, r, HF, HD, HMy⟩ := hal wr _ l _ RD.out (by rw [LL.out]; omega) LA.out (HT.out.below BR.out)
          have AF := Lib.hid HF
          have AD := Lib.hid HD
          have AM := Lib.hid HMy
          clear hal HF HD HMy
          go_wp2_with fail
          refine (AF.out _ BL.out).mono ?_
          rintro e w2 ⟨lv2, rfl, hr2, hb2⟩
          have B2 := Lib.hid (below_tr BL.out hb2)
          have R2 := Lib.hid hr2
          obtain ⟨lo2, lc2, rfl⟩ := hr2.shape
          clear hr2 hb2 BL AF
          unfold VL.val
          go_wp2_with fail
          have X2 := Lib.hid (VBlk.new w2 r.1 (.slice lo2 r.1.kids.length lc2))
          have B3 := Lib.hid (below_al B2.out (.cells #[.int .i64 r.1.kind, .int .i64 r.1.num, .string r.1.text, .slice lo2 r.1.kids.length lc2] 27))
          have R3 := Lib.hid (R2.out.below (below_al (Below.refl _ _) (.cells #[.int .i64 r.1.kind, .int .i64 r.1.num, .string r.1.text, .slice lo2 r.1.kids.length lc2] 27)))
          generalize w2.alloc (.cells #[.int .i64 r.1.kind, .int .i64 r.1.num, .string r.1.text, .slice lo2 r.1.kids.length lc2] 27) = w3 at *
          refine (AD.out _ B3.out).mono ?_
          rintro e w4 ⟨lv4, rfl, hr4, hb4⟩
          have B4 := Lib.hid (below_tr B3.out hb4)
          have X4 := Lib.hid (X2.out.below hb4)
          have R4 := Lib.hid (R3.out.below hb4)
          have S4 := Lib.hid hr4
          obtain ⟨lo4, lc4, rfl⟩ := hr4.shape
          clear hr4 hb4 AD R3 X2 B3 R2 B2
          go_wp2_with fail
          have GW := Lib.hid (below_al (Below.refl w4.heap.size w4) (.cells #[.int .i64 r.1.kind, .int .i64 r.1.num, .string r.1.text, .slice lo4 r.1.kids.length lc4, .int .i64 r.2] 34))
          have GX := Lib.hid (heap_alloc_new w4 (.cells #[.int .i64 r.1.kind, .int .i64 r.1.num, .string r.1.text, .slice lo4 r.1.kids.length lc4, .int .i64 r.2] 34))
          have K := Lib.hid (below_tr BR.out (below_tr B4.out GW.out))
          have XV := Lib.hid (X4.out.below GW.out)
          have RV := Lib.hid (R4.out.below GW.out)
          have RG := Lib.hid (S4.out.below GW.out)
          clear X4 R4 S4 B4 GW
          generalize w4.alloc (.cells #[.int .i64 r.1.kind, .int .i64 r.1.num, .string r.1.text, .slice lo4 r.1.kids.length lc4, .int .i64 r.2] 34) = wd at *
          generalize w4.heap.size = GG at *
          generalize w2.heap.size = GV at *
          have SIX : Hid (∀ V, Below wd.heap.size wd V → (fun w' => w'.cell? ⟨GV, 0, none⟩ = some (.int .i64 r.1.kind) ∧ w'.cell? ⟨GV, 1, none⟩ = some (.int .i64 r.1.num) ∧ w'.cell? ⟨GV, 2, none⟩ = some (.string r.1.text) ∧ w'.cell? ⟨GV, 3, none⟩ = some (.slice lo2 r.1.kids.length lc2) ∧ w'.cell? ⟨GG, 0, none⟩ = some (.int .i64 r.1.kind) ∧ w'.cell? ⟨GG, 1, none⟩ = some (.int .i64 r.1.num) ∧ w'.cell? ⟨GG, 2, none⟩ = some (.string r.1.text) ∧ w'.cell? ⟨GG, 3, none⟩ = some (.slice lo4 r.1.kids.length lc4) ∧ w'.cell? ⟨GG, 4, none⟩ = some (.int .i64 r.2)) V) := Lib.hid (fun V h => by
            obtain ⟨v0, v1, v2, v3⟩ := (XV.out.below h).cells
            have hg := (h.block GG (Array.getElem?_eq_some_iff.1 GX.out).1).trans GX.out
            exact ⟨v0, v1, v2, v3, cell_of_row V GG 0 _ _ _ hg, cell_of_row V GG 1 _ _ _ hg, cell_of_row V GG 2 _ _ _ hg, cell_of_row V GG 3 _ _ _ hg, cell_of_row V GG 4 _ _ _ hg⟩)
          have C1 := Lib.hid (fun V (h : Below wd.heap.size wd V) => by
            have h2 := (rsame D).call r.1 r.1 (.slice lo2 r.1.kids.length lc2) (.slice lo4 r.1.kids.length lc4) V (RV.out.below h) (RG.out.below h)
            rw [sameB_refl] at h2
            exact h2)
          have C2 := Lib.hid (fun (e : r.2 = 0) V (h : Below wd.heap.size wd V) => rMayVal V D r.1 _ (RV.out.below h) (AM.out e))
          clear XV RV RG GX AM RD LA LL hnm
          by_cases hy : r.2 = 0
          · have C3 := Lib.hid (C2.out hy)
            have gy : (r.2 != 0) = false := by simpa using hy
            clear hy C2
            go_region_held3 (fun w' => w'.cell? ⟨GV, 0, none⟩ = some (.int .i64 r.1.kind) ∧ w'.cell? ⟨GV, 1, none⟩ = some (.int .i64 r.1.num) ∧ w'.cell? ⟨GV, 2, none⟩ = some (.string r.1.text) ∧ w'.cell? ⟨GV, 3, none⟩ = some (.slice lo2 r.1.kids.length lc2) ∧ w'.cell? ⟨GG, 0, none⟩ = some (.int .i64 r.1.kind) ∧ w'.cell? ⟨GG, 1, none⟩ = some (.int .i64 r.1.num) ∧ w'.cell? ⟨GG, 2, none⟩ = some (.string r.1.text) ∧ w'.cell? ⟨GG, 3, none⟩ = some (.slice lo4 r.1.kids.length lc4) ∧ w'.cell? ⟨GG, 4, none⟩ = some (.int .i64 r.2)) (((with_reducible refine SIX.out _ ?_); (repeat (first | with_reducible exact HB.out | with_reducible exact Below.refl _ _ | with_reducible refine below_drew ?_ | with_reducible refine below_drewN ?_ _ | with_reducible refine below_al ?_ _)))) (first
      | (go_at_call 8; (with_reducible refine (C1.out _ ?_).mono ?_); (· (repeat (first | with_reducible exact HB.out | with_reducible exact Below.refl _ _ | with_reducible refine below_drew ?_ | with_reducible refine below_drewN ?_ _ | with_reducible refine below_al ?_ _))); rintro e w'' ⟨rfl, hb⟩; (have HB' : Below wd.heap.size wd w'' := by ((refine below_tr ?_ hb); (repeat (first | with_reducible exact HB.out | with_reducible exact Below.refl _ _ | with_reducible refine below_drew ?_ | with_reducible refine below_drewN ?_ _ | with_reducible refine below_al ?_ _)))); (clear hb); (have HB := Lib.hid HB'); (clear HB'))
      | (go_at_call 9; (with_reducible refine (lnum _ _).mono ?_); rintro e w'' ⟨rfl, rfl⟩)
      | (go_at_call 10; (with_reducible refine (C3.out _ ?_).mono ?_); (· (repeat (first | with_reducible exact HB.out | with_reducible exact Below.refl _ _ | with_reducible refine below_drew ?_ | with_reducible refine below_drewN ?_ _ | with_reducible refine below_al ?_ _))); rintro e w'' ⟨rfl, hb⟩; (have HB' : Below wd.heap.size wd w'' := by ((refine below_tr ?_ hb); (repeat (first | with_reducible exact HB.out | with_reducible exact Below.refl _ _ | with_reducible refine below_drew ?_ | with_reducible refine below_drewN ?_ _ | with_reducible refine below_al ?_ _)))); (clear hb); (have HB := Lib.hid HB'); (clear HB'))
      | (go_at_call 4; (with_reducible refine (law_awake5 _).mono ?_); rintro e w'' ⟨rfl, hb⟩; (have HB' : Below wd.heap.size wd w'' := by ((refine below_tr ?_ hb); (repeat (first | with_reducible exact HB.out | with_reducible exact Below.refl _ _ | with_reducible refine below_drew ?_ | with_reducible refine below_drewN ?_ _ | with_reducible refine below_al ?_ _)))); (clear hb); (have HB := Lib.hid HB'); (clear HB')))
            all_goals go_wp2
            all_goals go_ret
            all_goals exact ⟨rfl, below_tr K.out HB.out⟩
          · have gy : (r.2 != 0) = true := by simpa using hy
            clear hy C2
            refine wp_region_held_drew (S := (fun w' => w'.cell? ⟨GV, 0, none⟩ = some (.int .i64 r.1.kind) ∧ w'.cell? ⟨GV, 1, none⟩ = some (.int .i64 r.1.num) ∧ w'.cell? ⟨GV, 2, none⟩ = some (.string r.1.text) ∧ w'.cell? ⟨GV, 3, none⟩ = some (.slice lo2 r.1.kids.length lc2) ∧ w'.cell? ⟨GG, 0, none⟩ = some (.int .i64 r.1.kind) ∧ w'.cell? ⟨GG, 1, none⟩ = some (.int .i64 r.1.num) ∧ w'.cell? ⟨GG, 2, none⟩ = some (.string r.1.text) ∧ w'.cell? ⟨GG, 3, none⟩ = some (.slice lo4 r.1.kids.length lc4) ∧ w'.cell? ⟨GG, 4, none⟩ = some (.int .i64 r.2))) (by kernel_rfl) (by (with_reducible refine SIX.out _ ?_); (repeat (first | with_reducible exact HB.out | with_reducible exact Below.refl _ _ | with_reducible refine below_drew ?_ | with_reducible refine below_drewN ?_ _ | with_reducible refine below_al ?_ _))) (fun hHeld => ?_)
            refine wpAnyH_take (i := 0) (v := ?_) rfl (by kernel_rfl) (by kernel_rfl) (by kernel_rfl) (fun _ _ _ h => h) (Or.inl ⟨by rfl, ?_⟩) (by assumption) ?_
            rotate_left
            · (intro w hSw; (try dsimp only at hSw); go_simp <;> with_reducible rfl)
            simp only [Act.put, List.getElem_toArray, List.getElem_cons_zero, List.getElem_cons_succ, List.setIfInBounds_toArray, List.set_cons_zero, List.set_cons_succ]
            refine wpAnyH_take (i := 1) (v := ?_) rfl (by kernel_rfl) (by kernel_rfl) (by kernel_rfl) (fun _ _ _ h => h) (Or.inl ⟨by rfl, ?_⟩) (by assumption) ?_
            rotate_left
            · (intro w hSw; (try dsimp only at hSw); go_simp <;> with_reducible rfl)
            simp only [Act.put, List.getElem_toArray, List.getElem_cons_zero, List.getElem_cons_succ, List.setIfInBounds_toArray, List.set_cons_zero, List.set_cons_succ]
            refine wpAnyH_take (i := 2) (v := ?_) rfl (by kernel_rfl) (by kernel_rfl) (by kernel_rfl) (fun _ _ _ h => h) (Or.inl ⟨by rfl, ?_⟩) (by assumption) ?_
            rotate_left
            · (intro w hSw; (try dsimp only at hSw); go_simp <;> with_reducible rfl)
            simp only [Act.put, List.getElem_toArray, List.getElem_cons_zero, List.getElem_cons_succ, List.setIfInBounds_toArray, List.set_cons_zero, List.set_cons_succ]
            refine wpAnyH_ready (rs := [3]) (by kernel_rfl) (by simp) ?_
            refine AllReadyH.cons rfl (fun K hK => ?_) AllReadyH.nil
            try simp only [List.getElem_toArray, List.getElem_cons_zero, List.getElem_cons_succ]
            go_simp
            (go_at_call 8; (with_reducible refine (C1.out _ ?_).mono ?_); (· (repeat (first | with_reducible exact HB.out | with_reducible exact Below.refl _ _ | with_reducible refine below_drew ?_ | with_reducible refine below_drewN ?_ _ | with_reducible refine below_al ?_ _))); rintro e w'' ⟨rfl, hb⟩; (have HB' : Below wd.heap.size wd w'' := by ((refine below_tr ?_ hb); (repeat (first | with_reducible exact HB.out | with_reducible exact Below.refl _ _ | with_reducible refine below_drew ?_ | with_reducible refine below_drewN ?_ _ | with_reducible refine below_al ?_ _)))); (clear hb); (have HB := Lib.hid HB'); (clear HB'))
            try go_wp2_with fail
            refine hK.out _ _ (by (try dsimp only); (with_reducible refine SIX.out _ ?_); (repeat (first | with_reducible exact HB.out | with_reducible exact Below.refl _ _ | with_reducible refine below_drew ?_ | with_reducible refine below_drewN ?_ _ | with_reducible refine below_al ?_ _))) (fun hHeld => ?_)
            clear hK K
            try simp only [Act.put, List.getElem_toArray, List.getElem_cons_zero, List.getElem_cons_succ, List.setIfInBounds_toArray, List.set_cons_zero, List.set_cons_succ]
            refine wpAnyH_take (i := 4) (v := ?_) rfl (by kernel_rfl) (by kernel_rfl) (by kernel_rfl) (fun _ _ _ h => h) (Or.inl ⟨by rfl, ?_⟩) (by assumption) ?_
            rotate_left
            · (intro w hSw; (try dsimp only at hSw); go_simp <;> with_reducible rfl)
            simp only [Act.put, List.getElem_toArray, List.getElem_cons_zero, List.getElem_cons_succ, List.setIfInBounds_toArray, List.set_cons_zero, List.set_cons_succ]
            refine wpAnyH_take (i := 5) (v := ?_) rfl (by kernel_rfl) (by kernel_rfl) (by kernel_rfl) (fun _ _ _ h => h) (Or.inl ⟨by rfl, ?_⟩) (by assumption) ?_
            rotate_left
            · (intro w hSw; (try dsimp only at hSw); go_simp <;> with_reducible rfl)
            simp only [Act.put, List.getElem_toArray, List.getElem_cons_zero, List.getElem_cons_succ, List.setIfInBounds_toArray, List.set_cons_zero, List.set_cons_succ]
            refine wpAnyH_take (i := 7) (v := ?_) rfl (by kernel_rfl) (by kernel_rfl) (by kernel_rfl) (fun _ _ _ h => h) (Or.inl ⟨by rfl, ?_⟩) (by assumption) ?_
            rotate_left
            · (intro w hSw; (try dsimp only at hSw); go_simp <;> with_reducible rfl)
            simp only [Act.put, List.getElem_toArray, List.getElem_cons_zero, List.getElem_cons_succ, List.setIfInBounds_toArray, List.set_cons_zero, List.set_cons_succ]
            refine wpAnyH_take (i := 8) (v := ?_) rfl (by kernel_rfl) (by kernel_rfl) (by kernel_rfl) (fun _ _ _ h => h) (Or.inl ⟨by rfl, ?_⟩) (by assumption) ?_
            rotate_left
            · (intro w hSw; (try dsimp only at hSw); go_simp <;> with_reducible rfl)
            simp only [Act.put, List.getElem_toArray, List.getElem_cons_zero, List.getElem_cons_succ, List.setIfInBounds_toArray, List.set_cons_zero, List.set_cons_succ]
            refine wpAnyH_ready (rs := [6]) (by kernel_rfl) (by simp) ?_
            refine AllReadyH.cons rfl (fun K hK => ?_) AllReadyH.nil
            try simp only [List.getElem_toArray, List.getElem_cons_zero, List.getElem_cons_succ]
            go_simp
            (go_at_call 9; (with_reducible refine (lnum _ _).mono ?_); rintro e w'' ⟨rfl, rfl⟩)
            try go_wp2_with fail
            refine hK.out _ _ (by (try dsimp only); (with_reducible refine SIX.out _ ?_); (repeat (first | with_reducible exact HB.out | with_reducible exact Below.refl _ _ | with_reducible refine below_drew ?_ | with_reducible refine below_drewN ?_ _ | with_reducible refine below_al ?_ _))) (fun hHeld => ?_)
            clear hK K
            try simp only [Act.put, List.getElem_toArray, List.getElem_cons_zero, List.getElem_cons_succ, List.setIfInBounds_toArray, List.set_cons_zero, List.set_cons_succ]
            refine wpAnyH_take (i := 9) (v := ?_) rfl (by kernel_rfl) (by kernel_rfl) (by kernel_rfl) (fun _ _ _ h => h) (Or.inl ⟨by rfl, ?_⟩) (by assumption) ?_
            rotate_left
            · (intro w hSw; (try dsimp only at hSw); go_simp <;> with_reducible rfl)
            simp only [Act.put, List.getElem_toArray, List.getElem_cons_zero, List.getElem_cons_succ, List.setIfInBounds_toArray, List.set_cons_zero, List.set_cons_succ]
            refine wpAnyH_take (i := 10) (v := ?_) rfl (by kernel_rfl) (by kernel_rfl) (by kernel_rfl) (fun _ _ _ h => h) (Or.inl ⟨by rfl, ?_⟩) (by assumption) ?_
            rotate_left
            · (intro w hSw; (try dsimp only at hSw); go_simp <;> with_reducible rfl)
            simp only [Act.put, List.getElem_toArray, List.getElem_cons_zero, List.getElem_cons_succ, List.setIfInBounds_toArray, List.set_cons_zero, List.set_cons_succ]
            refine wpAnyH_take (i := 11) (v := ?_) rfl (by kernel_rfl) (by kernel_rfl) (by kernel_rfl) (fun _ _ _ h => h) (Or.inl ⟨by rfl, ?_⟩) (by assumption) ?_
            rotate_left
            · (intro w hSw; (try dsimp only at hSw); go_simp <;> with_reducible rfl)
            simp only [Act.put, List.getElem_toArray, List.getElem_cons_zero, List.getElem_cons_succ, List.setIfInBounds_toArray, List.set_cons_zero, List.set_cons_succ]
            refine wpAnyH_take (i := 12) (v := ?_) rfl (by kernel_rfl) (by kernel_rfl) (by kernel_rfl) (fun _ _ _ h => h) (Or.inl ⟨by rfl, ?_⟩) (by assumption) ?_
            rotate_left
            · (intro w hSw; (try dsimp only at hSw); go_simp <;> with_reducible rfl)
            simp only [Act.put, List.getElem_toArray, List.getElem_cons_zero, List.getElem_cons_succ, List.setIfInBounds_toArray, List.set_cons_zero, List.set_cons_succ]
            refine wpAnyH_take (i := 13) (v := ?_) rfl (by kernel_rfl) (by kernel_rfl) (by kernel_rfl) (fun _ _ _ h => h) (Or.inl ⟨by rfl, ?_⟩) (by assumption) ?_
            rotate_left
            · (intro w hSw; (try dsimp only at hSw); go_simp <;> with_reducible rfl)
            simp only [Act.put, List.getElem_toArray, List.getElem_cons_zero, List.getElem_cons_succ, List.setIfInBounds_toArray, List.set_cons_zero, List.set_cons_succ]
            refine wpAnyH_take (i := 14) (v := ?_) rfl (by kernel_rfl) (by kernel_rfl) (by kernel_rfl) (fun _ _ _ h => h) (Or.inl ⟨by rfl, ?_⟩) (by assumption) ?_
            rotate_left
            · (intro w hSw; (try dsimp only at hSw); go_simp <;> with_reducible rfl)
            simp only [Act.put, List.getElem_toArray, List.getElem_cons_zero, List.getElem_cons_succ, List.setIfInBounds_toArray, List.set_cons_zero, List.set_cons_succ]
            refine wpAnyH_take (i := 15) (v := ?_) rfl (by kernel_rfl) (by kernel_rfl) (by kernel_rfl) (fun _ _ _ h => h) (Or.inl ⟨by rfl, ?_⟩) (by assumption) ?_
            rotate_left
            · (intro w hSw; (try dsimp only at hSw); go_simp <;> with_reducible rfl)
            simp only [Act.put, List.getElem_toArray, List.getElem_cons_zero, List.getElem_cons_succ, List.setIfInBounds_toArray, List.set_cons_zero, List.set_cons_succ]
            refine wpAnyH_take (i := 16) (v := undef) rfl (by kernel_rfl) (by kernel_rfl) (by kernel_rfl) (fun _ _ _ h => h) (Or.inr ⟨by rfl, rfl⟩) (by assumption) ?_
            simp only [Act.put, List.getElem_toArray, List.getElem_cons_zero, List.getElem_cons_succ, List.setIfInBounds_toArray, List.set_cons_zero, List.set_cons_succ]
            refine wpAnyH_ready (rs := [17]) (by kernel_rfl) (by simp) ?_
            refine AllReadyH.cons rfl (fun K hK => ?_) AllReadyH.nil
            try simp only [List.getElem_toArray, List.getElem_cons_zero, List.getElem_cons_succ]
            go_simp
            refine hK.out _ _ (by (try dsimp only); (with_reducible refine SIX.out _ ?_); (repeat (first | with_reducible exact HB.out | with_reducible exact Below.refl _ _ | with_reducible refine below_drew ?_ | with_reducible refine below_drewN ?_ _ | with_reducible refine below_al ?_ _))) (fun hHeld => ?_)
            clear hK K
            try simp only [Act.put, List.getElem_toArray, List.getElem_cons_zero, List.getElem_cons_succ, List.setIfInBounds_toArray, List.set_cons_zero, List.set_cons_succ]
            refine wpAnyH_take (i := 18) (v := ?_) rfl (by kernel_rfl) (by kernel_rfl) (by kernel_rfl) (fun _ _ _ h => h) (Or.inl ⟨by rfl, ?_⟩) (by assumption) ?_
            rotate_left
            · (intro w hSw; (try dsimp only at hSw); go_simp <;> with_reducible rfl)
            simp only [Act.put, List.getElem_toArray, List.getElem_cons_zero, List.getElem_cons_succ, List.setIfInBounds_toArray, List.set_cons_zero, List.set_cons_succ]
            refine wpAnyH_take (i := 19) (v := ?_) rfl (by kernel_rfl) (by kernel_rfl) (by kernel_rfl) (fun _ _ _ h => h) (Or.inl ⟨by rfl, ?_⟩) (by assumption) ?_
            rotate_left
            · (intro w hSw; (try dsimp only at hSw); go_simp <;> with_reducible rfl)
            simp only [Act.put, List.getElem_toArray, List.getElem_cons_zero, List.getElem_cons_succ, List.setIfInBounds_toArray, List.set_cons_zero, List.set_cons_succ]
            refine wpAnyH_take (i := 20) (v := ?_) rfl (by kernel_rfl) (by kernel_rfl) (by kernel_rfl) (fun _ _ _ h => h) (Or.inl ⟨by rfl, ?_⟩) (by assumption) ?_
            rotate_left
            · (intro w hSw; (try dsimp only at hSw); go_simp <;> with_reducible rfl)
            simp only [Act.put, List.getElem_toArray, List.getElem_cons_zero, List.getElem_cons_succ, List.setIfInBounds_toArray, List.set_cons_zero, List.set_cons_succ]
            refine wpAnyH_ready (rs := [21]) (by kernel_rfl) (by simp) ?_
            refine AllReadyH.cons rfl (fun K hK => ?_) AllReadyH.nil
            try simp only [List.getElem_toArray, List.getElem_cons_zero, List.getElem_cons_succ]
            go_simp
            (go_at_call 4; (with_reducible refine (law_awake5 _).mono ?_); rintro e w'' ⟨rfl, hb⟩; (have HB' : Below wd.heap.size wd w'' := by ((refine below_tr ?_ hb); (repeat (first | with_reducible exact HB.out | with_reducible exact Below.refl _ _ | with_reducible refine below_drew ?_ | with_reducible refine below_drewN ?_ _ | with_reducible refine below_al ?_ _)))); (clear hb); (have HB := Lib.hid HB'); (clear HB'))
            try go_wp2_with fail
            refine hK.out _ _ (by (try dsimp only); (with_reducible refine SIX.out _ ?_); (repeat (first | with_reducible exact HB.out | with_reducible exact Below.refl _ _ | with_reducible refine below_drew ?_ | with_reducible refine below_drewN ?_ _ | with_reducible refine below_al ?_ _))) (fun hHeld => ?_)
            clear hK K
            try simp only [Act.put, List.getElem_toArray, List.getElem_cons_zero, List.getElem_cons_succ, List.setIfInBounds_toArray, List.set_cons_zero, List.set_cons_succ]
            refine wpAnyH_take (i := 22) (v := ?_) rfl (by kernel_rfl) (by kernel_rfl) (by kernel_rfl) (fun _ _ _ h => h) (Or.inl ⟨by rfl, ?_⟩) (by assumption) ?_
            rotate_left
            · (intro w hSw; (try dsimp only at hSw); go_simp <;> with_reducible rfl)
            simp only [Act.put, List.getElem_toArray, List.getElem_cons_zero, List.getElem_cons_succ, List.setIfInBounds_toArray, List.set_cons_zero, List.set_cons_succ]
            refine wpAnyH_take (i := 23) (v := ?_) rfl (by kernel_rfl) (by kernel_rfl) (by kernel_rfl) (fun _ _ _ h => h) (Or.inl ⟨by rfl, ?_⟩) (by assumption) ?_
            rotate_left
            · (intro w hSw; (try dsimp only at hSw); go_simp <;> with_reducible rfl)
            simp only [Act.put, List.getElem_toArray, List.getElem_cons_zero, List.getElem_cons_succ, List.setIfInBounds_toArray, List.set_cons_zero, List.set_cons_succ]
            refine wpAnyH_done (by kernel_rfl) ?_ _
            go_wp2
            go_ret
            exact ⟨rfl, below_tr K.out HB.out⟩
end
end Go.Proofs.YthlilcgjjkkajaaDoor
namespace Go.Proofs.YthlilcgjjkkajaaDoor
open Go.ChangeShapes Go.WideShapes Go.ChangeAt Go.RowKit
open Go.ChangeMaps (open_string shut_string)
set_option linter.unusedVariables false

theorem own : ownKnob Tryd.prog.godebug = none := by kernel_rfl
theorem laidOut : laidOutB Tryd.prog = true := by kernel_rfl
abbrev laidAll : List (String × DataW Unit) := Rows.funMadeRow.laid
/-- The door's own heap meets the condition. -/
theorem door_met (os : Os) (args : Array Value) : laidMetH Tryd.prog laidAll ((World.doorLaid Tryd.prog 400 os).forCall (fun _ _ => 0) ⟨#[], args, []⟩).memory :=
  laidMetH_of_parts3 (fuel := 8) (laidMet_of_run' 8 (by kernel_rfl) (by kernel_rfl)) (by kernel_rfl) (by kernel_rfl)
theorem gPowType : (Tryd.prog.globals[1]?).map (·.type) = some 110 := by kernel_rfl
theorem tab_of_laid {W : World} (h : laidMetH Tryd.prog laidAll W) : TabOK W := by
  rw [MakeChecks.laidMetH_plain _ _ _ (by kernel_rfl)] at h
  exact Lib.tabIs_of_head gPow gPowType Tryd.underlying110 Tryd.underlying62 (by kernel_rfl) (by kernel_rfl) h.tail.tail
theorem cells_row : Tryd.prog.cellsOf 25 = 1 := by kernel_rfl
set_option maxRecDepth 100000 in
/-- Rows of rows that came in. -/
theorem open_u8ss {H : Type} {enc : TypeId × Value → H} {W : World} {base : Nat} {v : Value} {d : DataW H} {p : List MemPlace} (hval : Value.okWide Tryd.prog W .any base 22 v) (h : DataW.Trod enc Tryd.prog W 0 (fun _ => true) true 22 v d p) :
    ∃ xss : List (List Int), RowsRd W v xss ∧ xss.length ≤ maxLen := by
  obtain ⟨a0, len, cap, rfl⟩ := okWide_slice Tryd.underlying22 hval
  obtain ⟨fuel, hf⟩ := h
  rcases Deep.open_int_rows Tryd.underlying22 Tryd.underlying25 Tryd.underlying5 cells_row cells_uint8 hf with ⟨hcs, hx⟩ | ⟨a, len', cap', A, L, C, Z, hcs, _, hl, hm, hx, hr⟩
  · simp [Value.cells] at hcs
    obtain ⟨rfl, rfl, rfl⟩ := hcs
    exact ⟨[], ⟨none, 0, rfl, fun j u h => by simp at h⟩, Nat.zero_le _⟩
  · simp [Value.cells] at hcs
    obtain ⟨rfl, rfl, rfl⟩ := hcs
    refine ⟨(List.range len).map fun r => (Z r).take (L r), ⟨some a, cap, by simp, fun j xs hj => ?_⟩, by simp; omega⟩
    have hjl : j < len := by
      have := (List.getElem?_eq_some_iff.1 hj).1
      simpa using this
    have hxs : xs = (Z j).take (L j) := by
      rw [List.getElem?_map, List.getElem?_range hjl] at hj
      simpa using hj.symm
    obtain ⟨hc, h1, h2, h3, h4, h5, h6⟩ := hr j (by omega)
    have hz : xs.length = L j := by rw [hxs, List.length_take]; omega
    obtain ⟨ab, ao, spot⟩ := a
    have hspot : spot = none := by simpa [Addr.add] using World.cell?_spot (hr 0 (by omega)).1
    subst hspot
    rw [Addr.add_lit] at hc
    refine ⟨ab, ao, _, rfl, hc, ⟨A j, C j, by rw [hz], fun i x hi => ?_⟩, fun _ _ _ e => by injection e with _ e1 e2; omega, fun x hx => ?_, by omega⟩
    · have hil : i < L j := by
        have := (List.getElem?_eq_some_iff.1 hi).1
        omega
      cases hA : A j with
      | none => have := h5 hA; omega
      | some a' =>
        obtain ⟨-, hcell⟩ := h6 a' hA
        obtain ⟨gb, go, sp⟩ := a'
        have hsp : sp = none := by simpa [Addr.add] using World.cell?_spot (hcell 0 (by omega))
        subst hsp
        refine ⟨gb, go, rfl, ?_⟩
        have hci := hcell i (by omega)
        rw [Addr.add_lit] at hci
        rw [hci]
        have hzi : (Z j)[i]? = some x := by rw [hxs, List.getElem?_take] at hi; simpa [hil] using hi
        rw [List.getD_eq_getElem?_getD, hzi]; rfl
    · have hw := h4 x (by rw [hxs] at hx; exact List.mem_of_mem_take hx)
      simp only [Lit.wf, Bool.and_eq_true, decide_eq_true_eq] at hw
      exact hw
end Go.Proofs.YthlilcgjjkkajaaDoor
namespace Go.Proofs.YthlilcgjjkkajaaDoor.funMadeDone
open Go.ChangeShapes Go.WideShapes Go.ChangeAt Go.RowKit
open Go.ChangeMaps (open_string shut_string)
set_option linter.unusedVariables false

set_option maxRecDepth 100000 in
theorem lifted (os : Os) (started : os.Started) (H : Type) (enc : TypeId × Value → H) :
    ReturnsInHanded {} Tryd.checked os 3 .any (fun w args => (Rows.funMadeSpec.pre enc Tryd.prog Tryd.f3 [] false w args ∧ laidMetH Tryd.prog laidAll w) ∧ sizedMet enc Tryd.prog Tryd.f3 (OpenSpec.ofChange Rows.funMadeSpec) false w args)
      (Rows.funMadeSpec.post enc Tryd.prog Tryd.f3 false true false false) := by
  refine returnsInHanded_of_change_and (C := Tryd.checked) (X := fun w _ => laidMetH Tryd.prog laidAll w) (fun _ _ _ hh h => h.of_heap hh) own started (by kernel_rfl) Tryd.func3
    (ChangeSpec.witness_shaped (enc := enc) (C := Tryd.checked) (os := os) (X := fun w _ => laidMetH Tryd.prog laidAll w) false (World.doorLaid Tryd.prog 400 os) #[.int .u8 0, .slice none 0 0, .string ⟨#[]⟩] 8 rfl (World.shaped_of_RefB (by kernel_rfl) (by kernel_rfl)) (by kernel_rfl) (by kernel_rfl) (by kernel_rfl) (door_met os _)) ?_
  intro W base args ds gs before hval0 hW _ _ hL _
  have hval : ∀ (j : Nat) t v, Tryd.f3.params[j]? = some t → args[j]? = some v → Value.okWide Tryd.prog W .any base t v := hval0
  have hW' := hW
  obtain ⟨p, q, hA0, hV, rfl, hfz, hnd⟩ := hW
  have hA : DataW.TrodAll enc Tryd.prog W 0 (fun _ => true) true Tryd.f3.params.toList args.toList ds p := hA0
  rw [Tryd.params3] at hA hval
  obtain ⟨v0, v1, v2, d0, d1, d2, p0, p1, p2, rfl, rfl, rfl, h0, h1, h2⟩ := trodAll_three hA
  obtain ⟨rfl, rfl⟩ := trodVars_none hV
  have hlt1 : ∀ x ∈ p1, x.block < W.heap.size := fun x hx => hW'.lt x (by simp [hx])
  obtain ⟨z0, rfl, rfl, rfl, hw0⟩ := open_int Tryd.underlying5 (hval 0 5 v0 rfl rfl) h0
  have hz0 : 0 ≤ z0 ∧ z0 ≤ 255 := by
    have h := hw0
    simp only [Lit.wf, Bool.and_eq_true, decide_eq_true_eq] at h
    exact h
  obtain ⟨m0, rfl⟩ : ∃ m : Nat, z0 = (m : Int) := ⟨z0.toNat, (Int.toNat_of_nonneg hz0.1).symm⟩
  have hm0 : m0 < 256 := by omega
  obtain ⟨xs1, hx1, hl1⟩ := open_u8ss (hval 1 22 v1 rfl rfl) h1
  obtain ⟨s2, rfl, rfl, rfl, hs2⟩ := open_string Tryd.underlying9 (hval 2 9 v2 rfl rfl) h2
  clear hA0 hval0
  simp only [List.append_nil] at hW'
  refine (law_made5 W m0 v1 xs1 s2 hs2 (by omega) hx1 hl1 (tab_of_laid hL)).mono fun e W' ⟨he, bel⟩ => ?_
  subst he
  exact ⟨_, rfl, _, _, _, [], _, [], hW', trodAll_mk1 (shut_bool Tryd.underlying4 _), trodAll_mk3 (shut_int Tryd.underlying5 hw0) (Below.trod laidOut (by kernel_rfl) (of_decide_eq_true (by kernel_rfl)) h1 bel hlt1) (shut_string Tryd.underlying9 hs2), rfl, bel.frame _, fun h => by cases h⟩

theorem said : Rows.FunMadeSaid :=
  OpenClaim.holds_of_wide 3 Tryd.f3 rfl rfl rfl rfl rfl rfl rfl ⟨rfl, rfl, rfl, rfl, rfl⟩ rfl rfl rfl rfl rfl (by kernel_rfl) Tryd.func3 (by kernel_rfl)
    (of_decide_eq_true (by kernel_rfl)) (by unfold Func.isWrapper; first | (rw [if_pos (by decide +kernel)]; kernel_rfl) | (rw [if_neg (by decide +kernel)]; exact ⟨rfl, rfl⟩))
    (fun os started H enc _ => lifted os started H enc)

theorem plain (f : FuncId) (fn : Func) (hf : Tryd.pinned.checked.prog.funcNamed "doorkeeper/doorkeeperlaw5.FunMade" = some f) (hfn : Tryd.pinned.checked.prog.funcs[f]? = some fn) :
    false = Tryd.pinned.checked.prog.looks [] ∧ ∀ (j : Nat) t, fn.params[j]? = some t → Tryd.pinned.checked.prog.wantsStandIn t = false := by
  obtain rfl : f = 3 := Option.some.inj ((show Tryd.prog.funcNamed "doorkeeper/doorkeeperlaw5.FunMade" = some 3 by kernel_rfl).symm.trans hf) |>.symm
  obtain rfl : fn = Tryd.f3 := (Option.some.inj (Tryd.func3.symm.trans hfn)).symm
  refine ⟨by kernel_rfl, fun j t ht => ?_⟩
  rw [Tryd.params3] at ht
  have ht : t = 5 ∨ t = 22 ∨ t = 9 := by simpa using Array.mem_of_getElem? ht
  rcases ht with rfl | rfl | rfl
  · exact (show Tryd.prog.wantsStandIn 5 = false by kernel_rfl)
  · exact (show Tryd.prog.wantsStandIn 22 = false by kernel_rfl)
  · exact (show Tryd.prog.wantsStandIn 9 = false by kernel_rfl)

theorem card : Rows.FunMadeCardSaid :=
  Claim7.holds_tied_plain_at .later [] _ _ _ _ said (fun _ h => by cases h) (by kernel_rfl) (fun _ h => by cases h) funMade_row_tie rfl ⟨rfl, rfl⟩ (by kernel_rfl) rfl plain (by kernel_rfl)
#print axioms card
end Go.Proofs.YthlilcgjjkkajaaDoor.funMadeDone
