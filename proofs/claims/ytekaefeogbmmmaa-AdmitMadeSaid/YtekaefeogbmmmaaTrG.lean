/- Live trees: made by numbers; all sums (pure). -/
import Derived.Test.YtekaefeogbmmmaaTrF
namespace Go.Proofs.Ytekaefeogbmmmaa
open Go.RowKit
set_option linter.unusedVariables false
set_option linter.unusedSimpArgs false
theorem look_iff {l : List I12} {s : ByteArray} : look l s = none ↔ iIdx l s = none := by
  rw [look_none]
  constructor
  · intro h
    cases hi : iIdx l s with
    | none => rfl
    | some k =>
      obtain ⟨x, hx, hn, -⟩ := iIdx_spec hi
      exact absurd hn (h x (List.mem_of_getElem? hx))
  · exact iIdx_no
/-- What a Create says. -/
def createE (l : List I12) (s p : ByteArray) (lim : V3) : Nat :=
  if (nameB s && mayV lim) = false then 1 else if iIdx l s ≠ none then 3 else if p ≠ ⟨#[]⟩ ∧ iIdx l p = none then 2 else if 120 ≤ l.length then 4 else 0
theorem create_ok {l : List I12} {s p : ByteArray} {lim : V3} (h : RT l) (h0 : createE l s p lim = 0) : RT (createL l s p lim) := by
  unfold createE at h0
  split at h0
  · cases h0
  · rename_i g1
    split at h0
    · cases h0
    · rename_i g2
      split at h0
      · cases h0
      · rename_i g3
        split at h0
        · cases h0
        · rename_i g4
          simp only [Bool.not_eq_false, Bool.and_eq_true] at g1
          refine create_right h g1.1 g1.2 (look_iff.2 (Classical.byContradiction g2)) ?_ (by omega)
          by_cases hp : p = ⟨#[]⟩
          · exact .inl hp
          · refine .inr ?_
            have : iIdx l p ≠ none := fun e => g3 ⟨hp, e⟩
            refine idx_some.1 ?_
            cases hi : iIdx l p with
            | none => exact absurd hi this
            | some k => rfl
theorem create_len (l : List I12) (s p : ByteArray) (lim : V3) : (createL l s p lim).length = l.length + 1 := by
  unfold createL
  have e := congrArg List.length (List.takeWhile_append_dropWhile (p := fun x : I12 => ltS x.name s) (l := l))
  rw [List.length_append] at e
  rw [List.length_append, List.length_cons]
  omega
def roomB (l : List I12) (us : List ByteArray) (v : V3) : Bool := l.all fun x => !(decide (x.name ∈ us)) || leV (addV x.sub v) x.lim
/-- What an Admit says. -/
def admE (l : List I12) (s : ByteArray) (v : V3) : Nat := if mayV v = false then 1 else if upI l s = [] then 2 else if roomB l (upI l s) v = false then 12 else 0
def admL (l : List I12) (s : ByteArray) (v : V3) : List I12 := l.map (admF (upI l s) s v)
theorem adm_ok {l : List I12} {s : ByteArray} {v : V3} (h : RT l) (h0 : admE l s v = 0) : RT (admL l s v) := by
  unfold admE at h0
  split at h0
  · cases h0
  · rename_i g1
    split at h0
    · cases h0
    · split at h0
      · cases h0
      · rename_i g3
        simp only [Bool.not_eq_false] at g1 g3
        refine adm_right h g1 fun x hx hm => ?_
        have := List.all_eq_true.1 g3 x hx
        simpa [hm] using this
theorem adm_len (l : List I12) (s : ByteArray) (v : V3) : (admL l s v).length = l.length := List.length_map _
def nameAt (l : List I12) (k : Nat) : ByteArray := match l[k]? with | some x => x.name | none => ⟨#[]⟩
def letS (k : Nat) : ByteArray := ⟨#[UInt8.ofNat (97 + k)]⟩
/-- One node more, and something let in, by three numbers. -/
def parM (l : List I12) (n : Nat) : ByteArray := if 0 < l.length ∧ 0 < n % 3 then nameAt l (n / 3 % l.length) else ⟨#[]⟩
def limM (a : Nat) : V3 := ⟨20 + (a : Int), 20 + (a : Int), 20 + (a : Int)⟩
def useM (b : Nat) : V3 := ⟨((b % 16 : Nat) : Int), ((b % 16 / 2 : Nat) : Int), ((b % 16 % 3 : Nat) : Int)⟩
def admM (l : List I12) (b : Nat) : List I12 := if admE l (nameAt l (b / 16 % l.length)) (useM b) = 0 then admL l (nameAt l (b / 16 % l.length)) (useM b) else l
def stepM (l : List I12) (n a b : Nat) : List I12 := if createE l (letS (l.length * 5 % 24)) (parM l n) (limM a) = 0 then admM (createL l (letS (l.length * 5 % 24)) (parM l n) (limM a)) b else l
def makeT : List Nat → List I12 → List I12
  | n :: a :: b :: r, l => if l.length < 24 then makeT r (stepM l n a b) else l
  | _, l => l
theorem adm_m {l : List I12} (h : RT l) (b : Nat) : RT (admM l b) ∧ (admM l b).length = l.length := by
  unfold admM
  split
  · rename_i h0
    exact ⟨adm_ok h h0, adm_len ..⟩
  · exact ⟨h, rfl⟩
theorem step_m {l : List I12} (h : RT l) (n a b : Nat) : RT (stepM l n a b) ∧ (stepM l n a b).length ≤ l.length + 1 := by
  unfold stepM
  split
  · rename_i h0
    obtain ⟨h1, h2⟩ := adm_m (create_ok h h0) b
    rw [create_len] at h2
    exact ⟨h1, by omega⟩
  · exact ⟨h, by omega⟩
theorem RT.nil : RT [] := ⟨Nat.zero_le _, List.Pairwise.nil, fun x hx => (by cases hx), fun x hx => (by cases hx)⟩
theorem make_right : ∀ (ns : List Nat) (l : List I12), RT l → l.length ≤ 24 → RT (makeT ns l) ∧ (makeT ns l).length ≤ 24
  | n :: a :: b :: r, l, h, hl => by
    rw [makeT]
    split
    · obtain ⟨h1, h2⟩ := step_m h n a b
      exact make_right r _ h1 (by omega)
    · exact ⟨h, hl⟩
  | [], l, h, hl => ⟨h, hl⟩
  | [n], l, h, hl => ⟨h, hl⟩
  | [n, a], l, h, hl => ⟨h, hl⟩
/-- Sums over a tree. -/
def sumF (f : I12 → V3) : List I12 → V3
  | [] => z3
  | x :: r => addV (f x) (sumF f r)
theorem sumF_congr {f g : I12 → V3} : ∀ {l : List I12}, (∀ x ∈ l, f x = g x) → sumF f l = sumF g l
  | [], _ => rfl
  | x :: r, h => by rw [sumF, sumF, h x List.mem_cons_self, sumF_congr fun y hy => h y (List.mem_cons_of_mem _ hy)]
theorem sumF_add (f g : I12 → V3) : ∀ l, sumF (fun x => addV (f x) (g x)) l = addV (sumF f l) (sumF g l)
  | [] => (addV_z _).symm
  | x :: r => by rw [sumF, sumF, sumF, sumF_add f g r]; simp only [addV, V3.mk.injEq]; omega
theorem sumF_z : ∀ l, sumF (fun _ => z3) l = z3
  | [] => rfl
  | x :: r => by rw [sumF, sumF_z r]; rfl
def kidG (g : I12 → V3) (l : List I12) (s : ByteArray) : V3 := sumF (fun y => if y.parent = s then g y else z3) l
theorem kid_g (s : ByteArray) : ∀ l, kidS l s = kidG (fun y => y.sub) l s
  | [] => rfl
  | y :: r => by
    rw [kidS, kid_g s r]
    show _ = addV (if y.parent = s then y.sub else z3) (kidG _ r s)
    split
    · rfl
    · exact (z_addV _).symm
/-- Sum by those above, or at once. -/
theorem sum_swap (g : I12 → V3) (m : List I12) : ∀ l, Uq l → sumF (fun x => kidG g m x.name) l = sumF (fun y => if (l.any fun x => decide (x.name = y.parent)) = true then g y else z3) m
  | [], _ => (sumF_z m).symm
  | x :: r, hu => by
    unfold Uq at hu
    rw [List.pairwise_cons] at hu
    rw [sumF, sum_swap g m r hu.2]
    unfold kidG
    rw [← sumF_add]
    refine sumF_congr fun y hy => ?_
    by_cases h1 : y.parent = x.name
    · have h2 : (r.any fun x => decide (x.name = y.parent)) = false := by
        rw [List.any_eq_false]
        intro z hz
        have := hu.1 z hz
        simp only [decide_eq_true_eq, h1]
        exact fun e => this e.symm
      rw [if_pos h1, if_neg (by rw [h2]; decide), if_pos (by simp [List.any_cons, h1]), addV_z]
    · rw [if_neg h1, z_addV]
      have : (x :: r).any (fun x => decide (x.name = y.parent)) = r.any fun x => decide (x.name = y.parent) := by
        rw [List.any_cons, decide_eq_false (fun e => h1 e.symm), Bool.false_or]
      rw [this]
theorem sum_all {l : List I12} (h : RT l) (g : I12 → V3) : addV (sumF (fun x => kidG g l x.name) l) (kidG g l ⟨#[]⟩) = sumF g l := by
  rw [sum_swap g l l h.srt.uq]
  unfold kidG
  rw [← sumF_add]
  refine sumF_congr fun y hy => ?_
  obtain ⟨-, -, -, g4, -⟩ := one_iff.1 (h.one y hy)
  by_cases e : y.parent = ⟨#[]⟩
  · have h2 : (l.any fun x => decide (x.name = y.parent)) = false := by
      rw [List.any_eq_false]
      intro z hz
      obtain ⟨g1, -⟩ := one_iff.1 (h.one z hz)
      simp only [decide_eq_true_eq, e]
      exact name_ne g1
    rw [if_neg (by rw [h2]; decide), if_pos e, z_addV]
  · rcases g4 with e2 | ⟨z, hz, hze⟩
    · exact absurd e2 e
    · rw [if_neg e, if_pos (by rw [List.any_eq_true]; exact ⟨z, hz, decide_eq_true hze⟩), addV_z]
/-- What is in use at the top is all that is in use. -/
theorem own_top {l : List I12} (h : RT l) : sumF (fun x => x.own) l = kidS l ⟨#[]⟩ := by
  have e1 := sum_all h (fun y => y.sub)
  have e2 : sumF (fun x => x.sub) l = addV (sumF (fun x => x.own) l) (sumF (fun x => kidG (fun y => y.sub) l x.name) l) := by
    rw [← sumF_add]
    exact sumF_congr fun x hx => by rw [← kid_g]; exact (two_iff.1 (h.two x hx)).1.symm
  rw [← e1, ← kid_g] at e2
  have hc := congrArg V3.c e2
  have hm := congrArg V3.m e2
  have hp := congrArg V3.p e2
  simp only [addV] at hc hm hp
  have : ∀ a b : V3, a.c = b.c → a.m = b.m → a.p = b.p → a = b := by
    rintro ⟨a1, a2, a3⟩ ⟨b1, b2, b3⟩ h1 h2 h3
    simp only at h1 h2 h3
    rw [h1, h2, h3]
  exact this _ _ (by omega) (by omega) (by omega)
theorem below_cnt (s : ByteArray) : ∀ l, kidG (fun _ => ⟨1, 0, 0⟩) l s = ⟨((belowI l s).length : Int), 0, 0⟩
  | [] => rfl
  | y :: r => by
    show addV (if y.parent = s then _ else z3) (kidG _ r s) = _
    rw [below_cnt s r]
    unfold belowI
    rw [List.filter_cons]
    by_cases h : y.parent = s
    · rw [if_pos h, if_pos (by simpa using h)]
      simp only [addV, List.map_cons, List.length_cons, V3.mk.injEq]
      exact ⟨by omega, rfl, rfl⟩
    · rw [if_neg h, if_neg (by simpa using h), z_addV]
theorem ones_len : ∀ l, sumF (fun _ => ⟨1, 0, 0⟩) l = ⟨(l.length : Int), 0, 0⟩
  | [] => rfl
  | y :: r => by
    rw [sumF, ones_len r]
    simp only [addV, List.length_cons, V3.mk.injEq]
    exact ⟨by omega, rfl, rfl⟩
/-- How many are below the first k. -/
def belowN (l : List I12) : Nat → Nat
  | 0 => (belowI l ⟨#[]⟩).length
  | k + 1 => belowN l k + (belowI l (nameAt l k)).length
theorem below_sum (l : List I12) : ∀ k, k ≤ l.length → ((belowN l k : Nat) : Int) = ((belowI l ⟨#[]⟩).length : Int) + (sumF (fun x => kidG (fun _ => ⟨1, 0, 0⟩) l x.name) (l.take k)).c
  | 0, _ => by simp [belowN, sumF, z3]
  | k + 1, hk => by
    have ih := below_sum l k (by omega)
    have app : ∀ (f : I12 → V3) (a b : List I12), sumF f (a ++ b) = addV (sumF f a) (sumF f b) := by
      intro f a b
      induction a with
      | nil => exact (z_addV _).symm
      | cons x r ih => rw [List.cons_append, sumF, sumF, ih, addV_assoc]
    rw [List.take_add_one, List.getElem?_eq_getElem (show k < l.length by omega), app]
    simp only [Option.toList_some, sumF, addV_z]
    rw [below_cnt, belowN]
    unfold nameAt
    rw [List.getElem?_eq_getElem (show k < l.length by omega)]
    simp only [addV]
    omega
theorem below_all {l : List I12} (h : RT l) : belowN l l.length = l.length := by
  have e1 := congrArg V3.c (sum_all h (fun _ => ⟨1, 0, 0⟩))
  have e2 := below_sum l l.length (Nat.le_refl _)
  rw [List.take_length] at e2
  rw [below_cnt, ones_len] at e1
  simp only [addV] at e1
  omega
/-- Nobody is beyond a limit above. -/
theorem le_trans {a b c : V3} (h1 : leV a b = true) (h2 : leV b c = true) : leV a c = true := by
  rw [le_iff] at *; omega
theorem le_self (a : V3) : leV a a = true := by rw [le_iff]; omega
theorem kid_le {s : ByteArray} {x : I12} (hp : x.parent = s) : ∀ l : List I12, (∀ y ∈ l, mayV y.sub = true) → x ∈ l → leV x.sub (kidS l s) = true
  | [], _, h => by cases h
  | y :: r, hm, hx => by
    have hr := fun z hz => hm z (List.mem_cons_of_mem y hz)
    have hy := may_bounds (hm y List.mem_cons_self)
    rcases List.mem_cons.1 hx with rfl | hx
    · rw [kidS, if_pos hp]
      have := kid_ge s r hr
      rw [le_iff]; simp only [addV]; omega
    · have ih := kid_le hp r hr hx
      rw [kidS]
      split
      · rw [le_iff] at *; simp only [addV]; omega
      · exact ih
theorem RT.may {l : List I12} (h : RT l) : ∀ y ∈ l, mayV y.sub = true := fun y hy => (one_iff.1 (h.one y hy)).2.2.2.2.2.2
theorem sub_par {l : List I12} (h : RT l) {x y : I12} (hx : x ∈ l) (hy : y ∈ l) (hp : y.name = x.parent) : leV x.sub y.sub = true := by
  have t := (two_iff.1 (h.two y hy)).1
  have k := kid_le hp.symm l h.may hx
  have o := may_bounds (one_iff.1 (h.one y hy)).2.2.1
  rw [← t]
  rw [le_iff] at *; simp only [addV]; omega
theorem own_sub {l : List I12} (h : RT l) {x : I12} (hx : x ∈ l) : leV x.own x.sub = true := by
  have t := (two_iff.1 (h.two x hx)).1
  have k := kid_ge x.name l h.may
  rw [← t, le_iff]; simp only [addV]; omega
theorem sub_up {l : List I12} (h : RT l) : ∀ n x, x ∈ l → ∀ t ∈ upF l n x.name, ∃ y ∈ l, y.name = t ∧ leV x.sub y.sub = true
  | 0, x, hx, t, ht => by cases ht
  | n + 1, x, hx, t, ht => by
    rw [upF_lsome (look_mem h.srt.uq hx)] at ht
    rcases List.mem_cons.1 ht with rfl | ht
    · exact ⟨x, hx, rfl, le_self _⟩
    · cases hl : look l x.parent with
      | none => rw [upF_lnone hl] at ht; cases ht
      | some y =>
        obtain ⟨hy, hn⟩ := look_name hl
        rw [← hn] at ht
        obtain ⟨z, hz, h1, h2⟩ := sub_up h n y hy t ht
        exact ⟨z, hz, h1, le_trans (sub_par h hx hy hn) h2⟩
theorem own_up {l : List I12} (h : RT l) {x : I12} (hx : x ∈ l) {t : ByteArray} (ht : t ∈ upI l x.name) : ∃ (j : Nat) (y : I12), iIdx l t = some j ∧ l[j]? = some y ∧ leV x.own y.lim = true := by
  obtain ⟨y, hy, hn, hle⟩ := sub_up h _ x hx t ht
  have e := look_idx (l := l) (s := t)
  rw [← hn, look_mem h.srt.uq hy] at e
  cases hi : iIdx l y.name with
  | none => rw [hi] at e; cases e
  | some j =>
    rw [hi] at e
    refine ⟨j, y, by rw [← hn]; exact hi, e.symm, ?_⟩
    exact le_trans (own_sub h hx) (le_trans hle (one_iff.1 (h.one y hy)).2.2.2.2.2.1)
theorem up_head {l : List I12} (h : RT l) {x : I12} (hx : x ∈ l) : ∃ r, upI l x.name = x.name :: r := ⟨_, upF_lsome (look_mem h.srt.uq hx) _⟩
/-- Who is below somebody: found, with that parent, in order. -/
theorem below_find {l : List I12} (h : RT l) {s t : ByteArray} (ht : t ∈ belowI l s) : ∃ (j : Nat) (y : I12), iIdx l t = some j ∧ l[j]? = some y ∧ y.parent = s := by
  unfold belowI at ht
  obtain ⟨y, hy, hn⟩ := List.mem_map.1 ht
  rw [List.mem_filter, decide_eq_true_eq] at hy
  have e := look_idx (l := l) (s := t)
  rw [← hn, look_mem h.srt.uq hy.1] at e
  cases hi : iIdx l y.name with
  | none => rw [hi] at e; cases e
  | some j =>
    rw [hi] at e
    exact ⟨j, y, by rw [← hn]; exact hi, e.symm, hy.2⟩
theorem below_srt {l : List I12} (h : RT l) (s : ByteArray) : (belowI l s).Pairwise fun a b => ltS a b = true := by
  unfold belowI
  rw [List.pairwise_map]
  exact List.Pairwise.filter _ h.srt
end Go.Proofs.Ytekaefeogbmmmaa
