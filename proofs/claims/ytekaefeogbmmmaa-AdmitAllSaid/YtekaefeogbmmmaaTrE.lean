/- Live trees: names in order, sums, who is above whom (pure). -/
import Derived.Test.YtekaefeogbmmmaaTrC
namespace Go.Proofs.Ytekaefeogbmmmaa
open Go.RowKit
set_option linter.unusedVariables false
set_option linter.unusedSimpArgs false
theorem bt_asym : ∀ x y : List UInt8, Op.bytesLess x y = true → Op.bytesLess y x = false
  | [], [], h => by simp [Op.bytesLess] at h
  | [], b :: y, h => by simp [Op.bytesLess]
  | a :: x, [], h => by simp [Op.bytesLess] at h
  | a :: x, b :: y, h => by
    simp only [Op.bytesLess, Bool.or_eq_true, decide_eq_true_eq, Bool.and_eq_true, beq_iff_eq] at h
    simp only [Op.bytesLess, Bool.or_eq_false_iff, decide_eq_false_iff_not, Bool.and_eq_false_iff]
    rcases h with h | ⟨h1, h2⟩
    · have h3 := UInt8.lt_iff_toNat_lt.1 h
      refine ⟨fun h4 => ?_, .inl ?_⟩
      · have := UInt8.lt_iff_toNat_lt.1 h4; omega
      · simp only [beq_eq_false_iff_ne, ne_eq]
        rintro rfl; omega
    · subst h1
      refine ⟨fun h4 => ?_, .inr (bt_asym x y h2)⟩
      have := UInt8.lt_iff_toNat_lt.1 h4; omega
theorem bt_tot : ∀ x y : List UInt8, Op.bytesLess x y = false → Op.bytesLess y x = false → x = y
  | [], [], _, _ => rfl
  | [], b :: y, h, _ => by simp [Op.bytesLess] at h
  | a :: x, [], _, h => by simp [Op.bytesLess] at h
  | a :: x, b :: y, h, k => by
    simp only [Op.bytesLess, Bool.or_eq_false_iff, decide_eq_false_iff_not, Bool.and_eq_false_iff] at h k
    have e : a = b := by
      have h1 : ¬ a.toNat < b.toNat := fun h2 => h.1 (UInt8.lt_iff_toNat_lt.2 h2)
      have h3 : ¬ b.toNat < a.toNat := fun h2 => k.1 (UInt8.lt_iff_toNat_lt.2 h2)
      exact UInt8.toNat_inj.1 (by omega)
    subst e
    have h1 : Op.bytesLess x y = false := by rcases h.2 with h | h; simp at h; exact h
    have h2 : Op.bytesLess y x = false := by rcases k.2 with h | h; simp at h; exact h
    rw [bt_tot x y h1 h2]
theorem bt_le : ∀ x y z : List UInt8, Op.bytesLess y x = false → Op.bytesLess z y = false → Op.bytesLess z x = false
  | [], _, [], _, _ => by simp [Op.bytesLess]
  | [], _, c :: z, _, _ => by simp [Op.bytesLess]
  | a :: x, [], _, h, _ => by simp [Op.bytesLess] at h
  | a :: x, b :: y, [], _, h => by simp [Op.bytesLess] at h
  | a :: x, b :: y, c :: z, h, k => by
    simp only [Op.bytesLess, Bool.or_eq_false_iff, decide_eq_false_iff_not, Bool.and_eq_false_iff] at h k ⊢
    have h1 : ¬ b.toNat < a.toNat := fun h2 => h.1 (UInt8.lt_iff_toNat_lt.2 h2)
    have k1 : ¬ c.toNat < b.toNat := fun h2 => k.1 (UInt8.lt_iff_toNat_lt.2 h2)
    refine ⟨fun h2 => ?_, ?_⟩
    · have := UInt8.lt_iff_toNat_lt.1 h2; omega
    · by_cases e : c = a
      · subst e
        have e2 : b = c := UInt8.toNat_inj.1 (by omega)
        subst e2
        right
        have h2 : Op.bytesLess y x = false := by rcases h.2 with h | h; simp at h; exact h
        have k2 : Op.bytesLess z y = false := by rcases k.2 with h | h; simp at h; exact h
        exact bt_le x y z h2 k2
      · left; simpa using e
theorem ltS_asym {a b : ByteArray} (h : ltS a b = true) : ltS b a = false := bt_asym _ _ h
theorem ltS_irr (a : ByteArray) : ltS a a = false := by
  cases h : ltS a a with
  | false => rfl
  | true => have := ltS_asym h; rw [h] at this; cases this
theorem ltS_trans {a b c : ByteArray} (h1 : ltS a b = true) (h2 : ltS b c = true) : ltS a c = true := by
  cases h : ltS a c with
  | true => rfl
  | false =>
    have h3 : ltS a b = false := bt_le b.toList c.toList a.toList (bt_asym _ _ h2) h
    rw [h1] at h3; cases h3
theorem toList_inj {a b : ByteArray} (h : a.toList = b.toList) : a = b := of_decide_eq_true ((tstr_eq a b).symm.trans (by rw [h]; simp))
theorem ltS_tot {a b : ByteArray} (h1 : ltS a b = false) (h2 : a ≠ b) : ltS b a = true := by
  cases h : ltS b a with
  | true => rfl
  | false => exact absurd (toList_inj (bt_tot _ _ h1 h)) h2
theorem ltS_ne {a b : ByteArray} (h : ltS a b = true) : a ≠ b := by
  rintro rfl
  rw [ltS_irr] at h; cases h
def Srt (l : List I12) : Prop := l.Pairwise fun x y => ltS x.name y.name = true
def Uq (l : List I12) : Prop := l.Pairwise fun x y => x.name ≠ y.name
theorem Srt.uq {l : List I12} (h : Srt l) : Uq l := h.imp fun h => ltS_ne h
theorem rise_srt {l : List I12} : allI l (riseB l) l.length ↔ Srt l := by
  unfold Srt
  rw [List.pairwise_iff_getElem]
  constructor
  · intro h
    have key : ∀ d i (hi : i < l.length) (hj : i + 1 + d < l.length), ltS l[i].name l[i + 1 + d].name = true := by
      intro d
      induction d with
      | zero =>
        intro i hi hj
        have h1 := h (i + 1) _ hj (List.getElem?_eq_getElem hj)
        unfold riseB at h1
        simpa only [List.getElem?_eq_getElem hi] using h1
      | succ d ih =>
        intro i hi hj
        have h1 := h (i + 1 + d + 1) _ hj (List.getElem?_eq_getElem hj)
        unfold riseB at h1
        simp only [List.getElem?_eq_getElem (show i + 1 + d < l.length by omega)] at h1
        exact ltS_trans (ih i hi (by omega)) h1
    intro i j hi hj hij
    have := key (j - i - 1) i hi (by omega)
    simpa only [show i + 1 + (j - i - 1) = j by omega] using this
  · intro h j y hj hy
    cases j with
    | zero => rfl
    | succ i =>
      have h1 := h i (i + 1) (by omega) hj (by omega)
      rw [List.getElem?_eq_getElem hj] at hy
      cases hy
      unfold riseB
      simpa only [List.getElem?_eq_getElem (show i < l.length by omega)] using h1
/-- What a node is by itself, but for its place. -/
def oneB (l : List I12) (x : I12) : Bool := nameB x.name && (mayV x.lim && (mayV x.own && (parB l x && (decide (1 ≤ x.ver) && (decide (x.ver ≤ 9007199254740992) && (leV x.sub x.lim && mayV x.sub))))))
theorem i1_one (l : List I12) (i : Nat) (x : I12) : i1OK l i x = (riseB l i x && oneB l x) := by
  unfold i1OK oneB
  rw [Bool.and_left_comm]
structure RT (l : List I12) : Prop where
  len : l.length ≤ 120
  srt : Srt l
  one : ∀ x ∈ l, oneB l x = true
  two : ∀ x ∈ l, i2OK l x = true
theorem right_iff {l : List I12} : rightP l ↔ RT l := by
  constructor
  · rintro ⟨h1, h2, h3⟩
    refine ⟨h1, rise_srt.1 fun j y hj hy => ?_, fun x hx => ?_, fun x hx => ?_⟩
    · have := h2 j y hj hy
      rw [i1_one, Bool.and_eq_true] at this
      exact this.1
    · obtain ⟨j, hj, rfl⟩ := List.mem_iff_getElem.1 hx
      have := h2 j _ hj (List.getElem?_eq_getElem hj)
      rw [i1_one, Bool.and_eq_true] at this
      exact this.2
    · obtain ⟨j, hj, rfl⟩ := List.mem_iff_getElem.1 hx
      exact h3 j _ hj (List.getElem?_eq_getElem hj)
  · rintro ⟨h1, h2, h3, h4⟩
    refine ⟨h1, fun j y hj hy => ?_, fun j y hj hy => h4 y (List.mem_of_getElem? hy)⟩
    rw [i1_one, rise_srt.2 h2 j y hj hy, h3 y (List.mem_of_getElem? hy)]; rfl
theorem idx_some {l : List I12} {s : ByteArray} : (iIdx l s).isSome = true ↔ ∃ y ∈ l, y.name = s := by
  cases h : iIdx l s with
  | none => simpa using fun y hy => iIdx_no h y hy
  | some k =>
    obtain ⟨x, hx, hn, -⟩ := iIdx_spec h
    simpa using ⟨x, List.mem_of_getElem? hx, hn⟩
theorem par_iff {l : List I12} {x : I12} : parB l x = true ↔ x.parent = ⟨#[]⟩ ∨ ∃ y ∈ l, y.name = x.parent := by
  unfold parB
  rw [Bool.or_eq_true, decide_eq_true_eq, idx_some]
theorem one_iff {l : List I12} {x : I12} : oneB l x = true ↔ nameB x.name = true ∧ mayV x.lim = true ∧ mayV x.own = true ∧ (x.parent = ⟨#[]⟩ ∨ ∃ y ∈ l, y.name = x.parent) ∧ (1 ≤ x.ver ∧ x.ver ≤ 9007199254740992) ∧ leV x.sub x.lim = true ∧ mayV x.sub = true := by
  unfold oneB
  simp only [Bool.and_eq_true, decide_eq_true_eq, par_iff, and_assoc]
theorem le_iff {a b : V3} : leV a b = true ↔ a.c ≤ b.c ∧ a.m ≤ b.m ∧ a.p ≤ b.p := by
  unfold leV
  simp only [Bool.and_eq_true, decide_eq_true_eq, and_assoc]
theorem may_iff {v : V3} : mayV v = true ↔ (0 ≤ v.c ∧ v.c ≤ 1099511627776) ∧ (0 ≤ v.m ∧ v.m ≤ 1099511627776) ∧ (0 ≤ v.p ∧ v.p ≤ 1099511627776) := by
  refine ⟨may_bounds, fun h => ?_⟩
  unfold mayV
  rw [Bool.and_eq_true, le_iff, le_iff]
  simp only [z3, mostV]
  omega
theorem addV_assoc (a b c : V3) : addV (addV a b) c = addV a (addV b c) := by simp only [addV, V3.mk.injEq]; omega
theorem addV_comm (a b : V3) : addV a b = addV b a := by simp only [addV, V3.mk.injEq]; omega
theorem addV_z (a : V3) : addV a z3 = a := by cases a; simp [addV, z3]
theorem z_addV (a : V3) : addV z3 a = a := by rw [addV_comm, addV_z]
theorem addV_left (a b c : V3) : addV a (addV b c) = addV b (addV a c) := by rw [← addV_assoc, addV_comm a b, addV_assoc]
/-- What those have whose Parent it is. -/
def kidS : List I12 → ByteArray → V3
  | [], _ => z3
  | y :: r, s => if y.parent = s then addV y.sub (kidS r s) else kidS r s
theorem kid_fold (s : ByteArray) : ∀ (l : List I12) (v : V3), (l.filter fun y => decide (y.parent = s)).foldl (fun v y => addV v y.sub) v = addV v (kidS l s)
  | [], v => (addV_z v).symm
  | y :: r, v => by
    rw [List.filter_cons, kidS]
    by_cases h : y.parent = s
    · simp only [h, decide_true, if_true, List.foldl_cons, kid_fold s r]
      rw [addV_assoc]
    · simp only [h, decide_false, Bool.false_eq_true, if_false, kid_fold s r]
theorem subTo_kid (l : List I12) (x : I12) : subTo l x l.length = addV x.own (kidS l x.name) := by
  unfold subTo
  rw [List.take_length, kid_fold]
theorem kid_app (s : ByteArray) : ∀ a b : List I12, kidS (a ++ b) s = addV (kidS a s) (kidS b s)
  | [], b => (z_addV _).symm
  | y :: r, b => by
    rw [List.cons_append, kidS, kidS, kid_app s r b]
    split
    · rw [addV_assoc]
    · rfl
theorem kid_ge (s : ByteArray) : ∀ l : List I12, (∀ y ∈ l, mayV y.sub = true) → 0 ≤ (kidS l s).c ∧ 0 ≤ (kidS l s).m ∧ 0 ≤ (kidS l s).p
  | [], _ => ⟨Int.le_refl _, Int.le_refl _, Int.le_refl _⟩
  | y :: r, h => by
    have ih := kid_ge s r fun y hy => h y (List.mem_cons_of_mem _ hy)
    have hy := may_bounds (h y List.mem_cons_self)
    rw [kidS]
    split
    · simp only [addV]; omega
    · exact ih
theorem kid_none (s : ByteArray) : ∀ l : List I12, (∀ y ∈ l, y.parent ≠ s) → kidS l s = z3
  | [], _ => rfl
  | y :: r, h => by rw [kidS, if_neg (h y List.mem_cons_self), kid_none s r fun y hy => h y (List.mem_cons_of_mem _ hy)]
theorem two_iff {l : List I12} {x : I12} : i2OK l x = true ↔ addV x.own (kidS l x.name) = x.sub ∧ (upI l x.name).length ≤ l.length := by
  unfold i2OK
  rw [Bool.and_eq_true, eqV_iff, decide_eq_true_eq, subTo_kid]
/-- Who has that name. -/
def look (l : List I12) (s : ByteArray) : Option I12 := l.find? fun x => decide (x.name = s)
theorem look_name {l : List I12} {s : ByteArray} {x : I12} (h : look l s = some x) : x ∈ l ∧ x.name = s := ⟨List.mem_of_find?_eq_some h, by simpa using List.find?_some h⟩
theorem look_none {l : List I12} {s : ByteArray} : look l s = none ↔ ∀ x ∈ l, x.name ≠ s := by
  unfold look
  rw [List.find?_eq_none]
  simp
theorem look_mem {l : List I12} (hu : Uq l) {x : I12} (hx : x ∈ l) : look l x.name = some x := by
  induction l with
  | nil => cases hx
  | cons y r ih =>
    unfold Uq at hu
    rw [List.pairwise_cons] at hu
    unfold look
    rw [List.find?_cons]
    rcases List.mem_cons.1 hx with rfl | hx
    · simp
    · have h1 := hu.1 x hx
      simp only [h1, decide_false]
      exact ih hu.2 hx
theorem look_idx {l : List I12} {s : ByteArray} : look l s = (iIdx l s).bind (l[·]?) := by
  cases h : iIdx l s with
  | none =>
    rw [look_none.2 (iIdx_no h)]; rfl
  | some k =>
    obtain ⟨x, hx, hn, hb⟩ := iIdx_spec h
    show look l s = l[k]?
    rw [hx]
    unfold look
    rw [List.find?_eq_some_iff_getElem]
    obtain ⟨hk, rfl⟩ := List.getElem?_eq_some_iff.1 hx
    exact ⟨by simpa using hn, k, hk, rfl, fun j hj => by simpa using hb j _ hj (List.getElem?_eq_getElem (by omega))⟩
theorem upF_look (l : List I12) (n : Nat) (s : ByteArray) : upF l (n + 1) s = match look l s with | none => [] | some x => x.name :: upF l n x.parent := by
  rw [look_idx, upF]
  cases h : iIdx l s with
  | none => rfl
  | some k => rfl
theorem upF_lnone {l : List I12} {s : ByteArray} (h : look l s = none) : ∀ n, upF l n s = []
  | 0 => rfl
  | n + 1 => by rw [upF_look, h]
theorem upF_lsome {l : List I12} {s : ByteArray} {x : I12} (h : look l s = some x) (n : Nat) : upF l (n + 1) s = s :: upF l n x.parent := by
  rw [upF_look, h]
  show x.name :: _ = _
  rw [(look_name h).2]
theorem upF_next {l : List I12} : ∀ n s, (upF l n s).length < n → upF l (n + 1) s = upF l n s
  | 0, s, h => by omega
  | n + 1, s, h => by
    cases hs : look l s with
    | none => rw [upF_lnone hs, upF_lnone hs]
    | some x =>
      rw [upF_lsome hs] at h ⊢
      rw [List.length_cons] at h
      rw [upF_lsome hs, upF_next n x.parent (by omega)]
theorem upF_more {l : List I12} {n : Nat} {s : ByteArray} (h : (upF l n s).length < n) : ∀ d, upF l (n + d) s = upF l n s
  | 0 => rfl
  | d + 1 => by
    have ih := upF_more h d
    rw [← Nat.add_assoc, upF_next (n + d) s (by rw [ih]; omega), ih]
theorem upF_mem {l : List I12} : ∀ n s t, t ∈ upF l n s → (upF l n s).length < n → ∃ m, (upF l m t).length < m ∧ (upF l m t).length ≤ (upF l n s).length
  | 0, s, t, h, _ => by cases h
  | n + 1, s, t, h, hc => by
    cases hs : look l s with
    | none => rw [upF_lnone hs] at h; cases h
    | some x =>
      have hc' := hc
      rw [upF_lsome hs] at h hc'
      rw [List.length_cons] at hc'
      rcases List.mem_cons.1 h with rfl | h
      · exact ⟨n + 1, hc, Nat.le_refl _⟩
      · obtain ⟨m, h1, h2⟩ := upF_mem n x.parent t h (by omega)
        refine ⟨m, h1, ?_⟩
        rw [upF_lsome hs, List.length_cons]; omega
theorem upF_nodup {l : List I12} : ∀ n s, (upF l n s).length < n → (upF l n s).Nodup
  | 0, s, h => by omega
  | n + 1, s, hc => by
    cases hs : look l s with
    | none => rw [upF_lnone hs]; exact List.nodup_nil
    | some x =>
      have hc' := hc
      have e := upF_lsome hs n
      rw [e, List.length_cons] at hc'
      rw [e, List.nodup_cons]
      refine ⟨fun hm => ?_, upF_nodup n x.parent (by omega)⟩
      obtain ⟨m, h1, h2⟩ := upF_mem n x.parent s hm (by omega)
      have e1 := upF_more h1 (n + 1)
      have e2 := upF_more hc m
      rw [Nat.add_comm] at e1
      rw [e1] at e2
      rw [e2, e, List.length_cons] at h2
      omega
instance decMemBA (s : ByteArray) (us : List ByteArray) : Decidable (s ∈ us) := decidable_of_iff (us.any (fun z => decide (z = s)) = true) (by simp)
/-- Of those whose Parent it is, how many are among us. -/
def cnt (l : List I12) (us : List ByteArray) (s : ByteArray) : Nat := (l.filter fun y => decide (y.parent = s) && decide (y.name ∈ us)).length
theorem cnt_nil (l : List I12) (s : ByteArray) : cnt l [] s = 0 := by unfold cnt; simp
theorem cnt_step {s t : ByteArray} {us : List ByteArray} (hs : s ∉ us) {x : I12} (hn : x.name = s) : ∀ l : List I12, Uq l → x ∈ l → cnt l (s :: us) t = (if x.parent = t then 1 else 0) + cnt l us t
  | [], _, h => by cases h
  | y :: r, hu, hx => by
    unfold Uq at hu
    rw [List.pairwise_cons] at hu
    have hcons : ∀ vs : List ByteArray, cnt (y :: r) vs t = (if y.parent = t ∧ y.name ∈ vs then 1 else 0) + cnt r vs t := by
      intro vs
      unfold cnt
      rw [List.filter_cons]
      by_cases h1 : y.parent = t
      · by_cases h2 : y.name ∈ vs
        · simp [h1, h2]; omega
        · simp [h1, h2]
      · simp [h1]
    rw [hcons, hcons]
    by_cases e : y.name = s
    · have hxy : x = y := by
        rcases List.mem_cons.1 hx with h | h
        · exact h
        · exact absurd (e.trans hn.symm) (hu.1 x h)
      subst hxy
      have hr : cnt r (s :: us) t = cnt r us t := by
        unfold cnt
        congr 1
        refine List.filter_congr fun z hz => ?_
        have : z.name ≠ s := fun e2 => hu.1 z hz (e.trans e2.symm)
        simp [this]
      rw [hr, e]
      by_cases h1 : x.parent = t <;> simp [h1, hs]
    · have hxr : x ∈ r := by
        rcases List.mem_cons.1 hx with h | h
        · subst h; exact absurd hn e
        · exact h
      rw [cnt_step hs hn r hu.2 hxr]
      have : (y.parent = t ∧ y.name ∈ s :: us) ↔ (y.parent = t ∧ y.name ∈ us) := by simp [e]
      simp only [this]
      omega
theorem chain_cnt {l : List I12} (hu : Uq l) : ∀ n s, (upF l n s).length < n → ∀ x ∈ l, (if x.name = s then 1 else 0) + cnt l (upF l n s) x.name = if x.name ∈ upF l n s then 1 else 0
  | 0, s, h, x, hx => by omega
  | n + 1, s, hc, x, hx => by
    cases hs : look l s with
    | none =>
      rw [upF_lnone hs, cnt_nil, if_neg (look_none.1 hs x hx)]; simp
    | some y =>
      have hnd := upF_nodup (n + 1) s hc
      have e := upF_lsome hs n
      rw [e] at hnd hc ⊢
      rw [List.nodup_cons] at hnd
      rw [List.length_cons] at hc
      obtain ⟨hy, hyn⟩ := look_name hs
      have ih := chain_cnt hu n y.parent (by omega) x hx
      rw [cnt_step hnd.1 hyn l hu hy]
      by_cases h1 : x.name = s
      · have h2 : ¬ x.name ∈ upF l n y.parent := by rw [h1]; exact hnd.1
        rw [if_neg h2] at ih
        rw [if_pos h1, if_pos (show x.name ∈ s :: upF l n y.parent by rw [h1]; exact List.mem_cons_self)]
        by_cases h3 : y.parent = x.name
        · rw [if_pos h3.symm] at ih; omega
        · rw [if_neg fun h => h3 h.symm] at ih; rw [if_neg h3]; omega
      · rw [if_neg h1]
        have h4 : (x.name ∈ s :: upF l n y.parent) ↔ (x.name ∈ upF l n y.parent) := by simp [h1]
        simp only [h4]
        rw [← ih]
        by_cases h3 : y.parent = x.name
        · rw [if_pos h3, if_pos h3.symm]; omega
        · rw [if_neg h3, if_neg fun h => h3 h.symm]; omega
end Go.Proofs.Ytekaefeogbmmmaa
