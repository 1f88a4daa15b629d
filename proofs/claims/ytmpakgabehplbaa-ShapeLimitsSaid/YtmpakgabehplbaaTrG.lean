/- Live trees: made by numbers; all sums (pure). -/
import Derived.Test.YtmpakgabehplbaaTrC
namespace Go.Proofs.Ytmpakgabehplbaa
open Go.RowKit
set_option linter.unusedVariables false
set_option linter.unusedSimpArgs false
theorem bt_asym : ∀ x y : List UInt8, Op.bytesLess x y = true → Op.bytesLess y x = false
  | [], [], h => by simp [Op.bytesLess] at h
  | [], b :: y, h => by simp [Op.bytesLess]
  | a :: x, [], h => by simp [Op.bytesLess] at h
  | a :: x, b :: y, h => by
    simp only [Op.bytesLess, Bool.or_eq_true, decide_eq_true_eq, Bool.and_eq_true, beq_iff_eq] at h
    simp only [Op.bytesLess, Bool.or_eq_false_iff, decide_eq_false_iff_not, Bool.and_eq_false_iff]
    rcases h with h | ⟨h1, h2⟩
    · have h3 := UInt8.lt_iff_toNat_lt.1 h
      refine ⟨fun h4 => ?_, .inl ?_⟩
      · have := UInt8.lt_iff_toNat_lt.1 h4; omega
      · simp only [beq_eq_false_iff_ne, ne_eq]
        rintro rfl; omega
    · subst h1
      refine ⟨fun h4 => ?_, .inr (bt_asym x y h2)⟩
      have := UInt8.lt_iff_toNat_lt.1 h4; omega
theorem bt_tot : ∀ x y : List UInt8, Op.bytesLess x y = false → Op.bytesLess y x = false → x = y
  | [], [], _, _ => rfl
  | [], b :: y, h, _ => by simp [Op.bytesLess] at h
  | a :: x, [], _, h => by simp [Op.bytesLess] at h
  | a :: x, b :: y, h, k => by
    simp only [Op.bytesLess, Bool.or_eq_false_iff, decide_eq_false_iff_not, Bool.and_eq_false_iff] at h k
    have e : a = b := by
      have h1 : ¬ a.toNat < b.toNat := fun h2 => h.1 (UInt8.lt_iff_toNat_lt.2 h2)
      have h3 : ¬ b.toNat < a.toNat := fun h2 => k.1 (UInt8.lt_iff_toNat_lt.2 h2)
      exact UInt8.toNat_inj.1 (by omega)
    subst e
    have h1 : Op.bytesLess x y = false := by rcases h.2 with h | h; simp at h; exact h
    have h2 : Op.bytesLess y x = false := by rcases k.2 with h | h; simp at h; exact h
    rw [bt_tot x y h1 h2]
theorem bt_le : ∀ x y z : List UInt8, Op.bytesLess y x = false → Op.bytesLess z y = false → Op.bytesLess z x = false
  | [], _, [], _, _ => by simp [Op.bytesLess]
  | [], _, c :: z, _, _ => by simp [Op.bytesLess]
  | a :: x, [], _, h, _ => by simp [Op.bytesLess] at h
  | a :: x, b :: y, [], _, h => by simp [Op.bytesLess] at h
  | a :: x, b :: y, c :: z, h, k => by
    simp only [Op.bytesLess, Bool.or_eq_false_iff, decide_eq_false_iff_not, Bool.and_eq_false_iff] at h k ⊢
    have h1 : ¬ b.toNat < a.toNat := fun h2 => h.1 (UInt8.lt_iff_toNat_lt.2 h2)
    have k1 : ¬ c.toNat < b.toNat := fun h2 => k.1 (UInt8.lt_iff_toNat_lt.2 h2)
    refine ⟨fun h2 => ?_, ?_⟩
    · have := UInt8.lt_iff_toNat_lt.1 h2; omega
    · by_cases e : c = a
      · subst e
        have e2 : b = c := UInt8.toNat_inj.1 (by omega)
        subst e2
        right
        have h2 : Op.bytesLess y x = false := by rcases h.2 with h | h; simp at h; exact h
        have k2 : Op.bytesLess z y = false := by rcases k.2 with h | h; simp at h; exact h
        exact bt_le x y z h2 k2
      · left; simpa using e
theorem ltS_asym {a b : ByteArray} (h : ltS a b = true) : ltS b a = false := bt_asym _ _ h
theorem ltS_irr (a : ByteArray) : ltS a a = false := by
  cases h : ltS a a with
  | false => rfl
  | true => have := ltS_asym h; rw [h] at this; cases this
theorem ltS_trans {a b c : ByteArray} (h1 : ltS a b = true) (h2 : ltS b c = true) : ltS a c = true := by
  cases h : ltS a c with
  | true => rfl
  | false =>
    have h3 : ltS a b = false := bt_le b.toList c.toList a.toList (bt_asym _ _ h2) h
    rw [h1] at h3; cases h3
theorem toList_inj {a b : ByteArray} (h : a.toList = b.toList) : a = b := of_decide_eq_true ((tstr_eq a b).symm.trans (by rw [h]; simp))
theorem ltS_tot {a b : ByteArray} (h1 : ltS a b = false) (h2 : a ≠ b) : ltS b a = true := by
  cases h : ltS b a with
  | true => rfl
  | false => exact absurd (toList_inj (bt_tot _ _ h1 h)) h2
theorem ltS_ne {a b : ByteArray} (h : ltS a b = true) : a ≠ b := by
  rintro rfl
  rw [ltS_irr] at h; cases h
def Srt (l : List I12) : Prop := l.Pairwise fun x y => ltS x.name y.name = true
def Uq (l : List I12) : Prop := l.Pairwise fun x y => x.name ≠ y.name
theorem Srt.uq {l : List I12} (h : Srt l) : Uq l := h.imp fun h => ltS_ne h
theorem rise_srt {l : List I12} : allI l (riseB l) l.length ↔ Srt l := by
  unfold Srt
  rw [List.pairwise_iff_getElem]
  constructor
  · intro h
    have key : ∀ d i (hi : i < l.length) (hj : i + 1 + d < l.length), ltS l[i].name l[i + 1 + d].name = true := by
      intro d
      induction d with
      | zero =>
        intro i hi hj
        have h1 := h (i + 1) _ hj (List.getElem?_eq_getElem hj)
        unfold riseB at h1
        simpa only [List.getElem?_eq_getElem hi] using h1
      | succ d ih =>
        intro i hi hj
        have h1 := h (i + 1 + d + 1) _ hj (List.getElem?_eq_getElem hj)
        unfold riseB at h1
        simp only [List.getElem?_eq_getElem (show i + 1 + d < l.length by omega)] at h1
        exact ltS_trans (ih i hi (by omega)) h1
    intro i j hi hj hij
    have := key (j - i - 1) i hi (by omega)
    simpa only [show i + 1 + (j - i - 1) = j by omega] using this
  · intro h j y hj hy
    cases j with
    | zero => rfl
    | succ i =>
      have h1 := h i (i + 1) (by omega) hj (by omega)
      rw [List.getElem?_eq_getElem hj] at hy
      cases hy
      unfold riseB
      simpa only [List.getElem?_eq_getElem (show i < l.length by omega)] using h1
/-- What a node is by itself, but for its place. -/
def oneB (l : List I12) (x : I12) : Bool := nameB x.name && (mayV x.lim && (mayV x.own && (parB l x && (decide (1 ≤ x.ver) && (decide (x.ver ≤ 9007199254740992) && (leV x.sub x.lim && mayV x.sub))))))
theorem i1_one (l : List I12) (i : Nat) (x : I12) : i1OK l i x = (riseB l i x && oneB l x) := by
  unfold i1OK oneB
  rw [Bool.and_left_comm]
structure RT (l : List I12) : Prop where
  len : l.length ≤ 120
  srt : Srt l
  one : ∀ x ∈ l, oneB l x = true
  two : ∀ x ∈ l, i2OK l x = true
theorem right_iff {l : List I12} : rightP l ↔ RT l := by
  constructor
  · rintro ⟨h1, h2, h3⟩
    refine ⟨h1, rise_srt.1 fun j y hj hy => ?_, fun x hx => ?_, fun x hx => ?_⟩
    · have := h2 j y hj hy
      rw [i1_one, Bool.and_eq_true] at this
      exact this.1
    · obtain ⟨j, hj, rfl⟩ := List.mem_iff_getElem.1 hx
      have := h2 j _ hj (List.getElem?_eq_getElem hj)
      rw [i1_one, Bool.and_eq_true] at this
      exact this.2
    · obtain ⟨j, hj, rfl⟩ := List.mem_iff_getElem.1 hx
      exact h3 j _ hj (List.getElem?_eq_getElem hj)
  · rintro ⟨h1, h2, h3, h4⟩
    refine ⟨h1, fun j y hj hy => ?_, fun j y hj hy => h4 y (List.mem_of_getElem? hy)⟩
    rw [i1_one, rise_srt.2 h2 j y hj hy, h3 y (List.mem_of_getElem? hy)]; rfl
theorem idx_some {l : List I12} {s : ByteArray} : (iIdx l s).isSome = true ↔ ∃ y ∈ l, y.name = s := by
  cases h : iIdx l s with
  | none => simpa using fun y hy => iIdx_no h y hy
  | some k =>
    obtain ⟨x, hx, hn, -⟩ := iIdx_spec h
    simpa using ⟨x, List.mem_of_getElem? hx, hn⟩
theorem par_iff {l : List I12} {x : I12} : parB l x = true ↔ x.parent = ⟨#[]⟩ ∨ ∃ y ∈ l, y.name = x.parent := by
  unfold parB
  rw [Bool.or_eq_true, decide_eq_true_eq, idx_some]
theorem one_iff {l : List I12} {x : I12} : oneB l x = true ↔ nameB x.name = true ∧ mayV x.lim = true ∧ mayV x.own = true ∧ (x.parent = ⟨#[]⟩ ∨ ∃ y ∈ l, y.name = x.parent) ∧ (1 ≤ x.ver ∧ x.ver ≤ 9007199254740992) ∧ leV x.sub x.lim = true ∧ mayV x.sub = true := by
  unfold oneB
  simp only [Bool.and_eq_true, decide_eq_true_eq, par_iff, and_assoc]
theorem le_iff {a b : V3} : leV a b = true ↔ a.c ≤ b.c ∧ a.m ≤ b.m ∧ a.p ≤ b.p := by
  unfold leV
  simp only [Bool.and_eq_true, decide_eq_true_eq, and_assoc]
theorem may_iff {v : V3} : mayV v = true ↔ (0 ≤ v.c ∧ v.c ≤ 1099511627776) ∧ (0 ≤ v.m ∧ v.m ≤ 1099511627776) ∧ (0 ≤ v.p ∧ v.p ≤ 1099511627776) := by
  refine ⟨may_bounds, fun h => ?_⟩
  unfold mayV
  rw [Bool.and_eq_true, le_iff, le_iff]
  simp only [z3, mostV]
  omega
theorem addV_assoc (a b c : V3) : addV (addV a b) c = addV a (addV b c) := by simp only [addV, V3.mk.injEq]; omega
theorem addV_comm (a b : V3) : addV a b = addV b a := by simp only [addV, V3.mk.injEq]; omega
theorem addV_z (a : V3) : addV a z3 = a := by cases a; simp [addV, z3]
theorem z_addV (a : V3) : addV z3 a = a := by rw [addV_comm, addV_z]
theorem addV_left (a b c : V3) : addV a (addV b c) = addV b (addV a c) := by rw [← addV_assoc, addV_comm a b, addV_assoc]
/-- What those have whose Parent it is. -/
def kidS : List I12 → ByteArray → V3
  | [], _ => z3
  | y :: r, s => if y.parent = s then addV y.sub (kidS r s) else kidS r s
theorem kid_fold (s : ByteArray) : ∀ (l : List I12) (v : V3), (l.filter fun y => decide (y.parent = s)).foldl (fun v y => addV v y.sub) v = addV v (kidS l s)
  | [], v => (addV_z v).symm
  | y :: r, v => by
    rw [List.filter_cons, kidS]
    by_cases h : y.parent = s
    · simp only [h, decide_true, if_true, List.foldl_cons, kid_fold s r]
      rw [addV_assoc]
    · simp only [h, decide_false, Bool.false_eq_true, if_false, kid_fold s r]
theorem subTo_kid (l : List I12) (x : I12) : subTo l x l.length = addV x.own (kidS l x.name) := by
  unfold subTo
  rw [List.take_length, kid_fold]
theorem kid_app (s : ByteArray) : ∀ a b : List I12, kidS (a ++ b) s = addV (kidS a s) (kidS b s)
  | [], b => (z_addV _).symm
  | y :: r, b => by
    rw [List.cons_append, kidS, kidS, kid_app s r b]
    split
    · rw [addV_assoc]
    · rfl
theorem kid_ge (s : ByteArray) : ∀ l : List I12, (∀ y ∈ l, mayV y.sub = true) → 0 ≤ (kidS l s).c ∧ 0 ≤ (kidS l s).m ∧ 0 ≤ (kidS l s).p
  | [], _ => ⟨Int.le_refl _, Int.le_refl _, Int.le_refl _⟩
  | y :: r, h => by
    have ih := kid_ge s r fun y hy => h y (List.mem_cons_of_mem _ hy)
    have hy := may_bounds (h y List.mem_cons_self)
    rw [kidS]
    split
    · simp only [addV]; omega
    · exact ih
theorem kid_none (s : ByteArray) : ∀ l : List I12, (∀ y ∈ l, y.parent ≠ s) → kidS l s = z3
  | [], _ => rfl
  | y :: r, h => by rw [kidS, if_neg (h y List.mem_cons_self), kid_none s r fun y hy => h y (List.mem_cons_of_mem _ hy)]
theorem two_iff {l : List I12} {x : I12} : i2OK l x = true ↔ addV x.own (kidS l x.name) = x.sub ∧ (upI l x.name).length ≤ l.length := by
  unfold i2OK
  rw [Bool.and_eq_true, eqV_iff, decide_eq_true_eq, subTo_kid]
/-- Who has that name. -/
def look (l : List I12) (s : ByteArray) : Option I12 := l.find? fun x => decide (x.name = s)
theorem look_name {l : List I12} {s : ByteArray} {x : I12} (h : look l s = some x) : x ∈ l ∧ x.name = s := ⟨List.mem_of_find?_eq_some h, by simpa using List.find?_some h⟩
theorem look_none {l : List I12} {s : ByteArray} : look l s = none ↔ ∀ x ∈ l, x.name ≠ s := by
  unfold look
  rw [List.find?_eq_none]
  simp
theorem look_mem {l : List I12} (hu : Uq l) {x : I12} (hx : x ∈ l) : look l x.name = some x := by
  induction l with
  | nil => cases hx
  | cons y r ih =>
    unfold Uq at hu
    rw [List.pairwise_cons] at hu
    unfold look
    rw [List.find?_cons]
    rcases List.mem_cons.1 hx with rfl | hx
    · simp
    · have h1 := hu.1 x hx
      simp only [h1, decide_false]
      exact ih hu.2 hx
theorem look_idx {l : List I12} {s : ByteArray} : look l s = (iIdx l s).bind (l[·]?) := by
  cases h : iIdx l s with
  | none =>
    rw [look_none.2 (iIdx_no h)]; rfl
  | some k =>
    obtain ⟨x, hx, hn, hb⟩ := iIdx_spec h
    show look l s = l[k]?
    rw [hx]
    unfold look
    rw [List.find?_eq_some_iff_getElem]
    obtain ⟨hk, rfl⟩ := List.getElem?_eq_some_iff.1 hx
    exact ⟨by simpa using hn, k, hk, rfl, fun j hj => by simpa using hb j _ hj (List.getElem?_eq_getElem (by omega))⟩
theorem upF_look (l : List I12) (n : Nat) (s : ByteArray) : upF l (n + 1) s = match look l s with | none => [] | some x => x.name :: upF l n x.parent := by
  rw [look_idx, upF]
  cases h : iIdx l s with
  | none => rfl
  | some k => rfl
theorem upF_lnone {l : List I12} {s : ByteArray} (h : look l s = none) : ∀ n, upF l n s = []
  | 0 => rfl
  | n + 1 => by rw [upF_look, h]
theorem upF_lsome {l : List I12} {s : ByteArray} {x : I12} (h : look l s = some x) (n : Nat) : upF l (n + 1) s = s :: upF l n x.parent := by
  rw [upF_look, h]
  show x.name :: _ = _
  rw [(look_name h).2]
theorem upF_next {l : List I12} : ∀ n s, (upF l n s).length < n → upF l (n + 1) s = upF l n s
  | 0, s, h => by omega
  | n + 1, s, h => by
    cases hs : look l s with
    | none => rw [upF_lnone hs, upF_lnone hs]
    | some x =>
      rw [upF_lsome hs] at h ⊢
      rw [List.length_cons] at h
      rw [upF_lsome hs, upF_next n x.parent (by omega)]
theorem upF_more {l : List I12} {n : Nat} {s : ByteArray} (h : (upF l n s).length < n) : ∀ d, upF l (n + d) s = upF l n s
  | 0 => rfl
  | d + 1 => by
    have ih := upF_more h d
    rw [← Nat.add_assoc, upF_next (n + d) s (by rw [ih]; omega), ih]
theorem upF_mem {l : List I12} : ∀ n s t, t ∈ upF l n s → (upF l n s).length < n → ∃ m, (upF l m t).length < m ∧ (upF l m t).length ≤ (upF l n s).length
  | 0, s, t, h, _ => by cases h
  | n + 1, s, t, h, hc => by
    cases hs : look l s with
    | none => rw [upF_lnone hs] at h; cases h
    | some x =>
      have hc' := hc
      rw [upF_lsome hs] at h hc'
      rw [List.length_cons] at hc'
      rcases List.mem_cons.1 h with rfl | h
      · exact ⟨n + 1, hc, Nat.le_refl _⟩
      · obtain ⟨m, h1, h2⟩ := upF_mem n x.parent t h (by omega)
        refine ⟨m, h1, ?_⟩
        rw [upF_lsome hs, List.length_cons]; omega
theorem upF_nodup {l : List I12} : ∀ n s, (upF l n s).length < n → (upF l n s).Nodup
  | 0, s, h => by omega
  | n + 1, s, hc => by
    cases hs : look l s with
    | none => rw [upF_lnone hs]; exact List.nodup_nil
    | some x =>
      have hc' := hc
      have e := upF_lsome hs n
      rw [e, List.length_cons] at hc'
      rw [e, List.nodup_cons]
      refine ⟨fun hm => ?_, upF_nodup n x.parent (by omega)⟩
      obtain ⟨m, h1, h2⟩ := upF_mem n x.parent s hm (by omega)
      have e1 := upF_more h1 (n + 1)
      have e2 := upF_more hc m
      rw [Nat.add_comm] at e1
      rw [e1] at e2
      rw [e2, e, List.length_cons] at h2
      omega
instance decMemBA (s : ByteArray) (us : List ByteArray) : Decidable (s ∈ us) := decidable_of_iff (us.any (fun z => decide (z = s)) = true) (by simp)
/-- Of those whose Parent it is, how many are among us. -/
def cnt (l : List I12) (us : List ByteArray) (s : ByteArray) : Nat := (l.filter fun y => decide (y.parent = s) && decide (y.name ∈ us)).length
theorem cnt_nil (l : List I12) (s : ByteArray) : cnt l [] s = 0 := by unfold cnt; simp
theorem cnt_step {s t : ByteArray} {us : List ByteArray} (hs : s ∉ us) {x : I12} (hn : x.name = s) : ∀ l : List I12, Uq l → x ∈ l → cnt l (s :: us) t = (if x.parent = t then 1 else 0) + cnt l us t
  | [], _, h => by cases h
  | y :: r, hu, hx => by
    unfold Uq at hu
    rw [List.pairwise_cons] at hu
    have hcons : ∀ vs : List ByteArray, cnt (y :: r) vs t = (if y.parent = t ∧ y.name ∈ vs then 1 else 0) + cnt r vs t := by
      intro vs
      unfold cnt
      rw [List.filter_cons]
      by_cases h1 : y.parent = t
      · by_cases h2 : y.name ∈ vs
        · simp [h1, h2]; omega
        · simp [h1, h2]
      · simp [h1]
    rw [hcons, hcons]
    by_cases e : y.name = s
    · have hxy : x = y := by
        rcases List.mem_cons.1 hx with h | h
        · exact h
        · exact absurd (e.trans hn.symm) (hu.1 x h)
      subst hxy
      have hr : cnt r (s :: us) t = cnt r us t := by
        unfold cnt
        congr 1
        refine List.filter_congr fun z hz => ?_
        have : z.name ≠ s := fun e2 => hu.1 z hz (e.trans e2.symm)
        simp [this]
      rw [hr, e]
      by_cases h1 : x.parent = t <;> simp [h1, hs]
    · have hxr : x ∈ r := by
        rcases List.mem_cons.1 hx with h | h
        · subst h; exact absurd hn e
        · exact h
      rw [cnt_step hs hn r hu.2 hxr]
      have : (y.parent = t ∧ y.name ∈ s :: us) ↔ (y.parent = t ∧ y.name ∈ us) := by simp [e]
      simp only [this]
      omega
theorem chain_cnt {l : List I12} (hu : Uq l) : ∀ n s, (upF l n s).length < n → ∀ x ∈ l, (if x.name = s then 1 else 0) + cnt l (upF l n s) x.name = if x.name ∈ upF l n s then 1 else 0
  | 0, s, h, x, hx => by omega
  | n + 1, s, hc, x, hx => by
    cases hs : look l s with
    | none =>
      rw [upF_lnone hs, cnt_nil, if_neg (look_none.1 hs x hx)]; simp
    | some y =>
      have hnd := upF_nodup (n + 1) s hc
      have e := upF_lsome hs n
      rw [e] at hnd hc ⊢
      rw [List.nodup_cons] at hnd
      rw [List.length_cons] at hc
      obtain ⟨hy, hyn⟩ := look_name hs
      have ih := chain_cnt hu n y.parent (by omega) x hx
      rw [cnt_step hnd.1 hyn l hu hy]
      by_cases h1 : x.name = s
      · have h2 : ¬ x.name ∈ upF l n y.parent := by rw [h1]; exact hnd.1
        rw [if_neg h2] at ih
        rw [if_pos h1, if_pos (show x.name ∈ s :: upF l n y.parent by rw [h1]; exact List.mem_cons_self)]
        by_cases h3 : y.parent = x.name
        · rw [if_pos h3.symm] at ih; omega
        · rw [if_neg fun h => h3 h.symm] at ih; rw [if_neg h3]; omega
      · rw [if_neg h1]
        have h4 : (x.name ∈ s :: upF l n y.parent) ↔ (x.name ∈ upF l n y.parent) := by simp [h1]
        simp only [h4]
        rw [← ih]
        by_cases h3 : y.parent = x.name
        · rw [if_pos h3, if_pos h3.symm]; omega
        · rw [if_neg h3, if_neg fun h => h3 h.symm]; omega
end Go.Proofs.Ytmpakgabehplbaa
namespace Go.Proofs.Ytmpakgabehplbaa
open Go.RowKit
set_option linter.unusedVariables false
set_option linter.unusedSimpArgs false
/-- The node with v let in at s. -/
def admF (us : List ByteArray) (s : ByteArray) (v : V3) (x : I12) : I12 := ⟨x.name, x.parent, x.lim, if x.name = s then addV x.own v else x.own, if x.name ∈ us then addV x.sub v else x.sub, x.ver⟩
def timesV : Nat → V3 → V3
  | 0, _ => z3
  | n + 1, v => addV v (timesV n v)
theorem cnt_cons (y : I12) (r : List I12) (vs : List ByteArray) (t : ByteArray) : cnt (y :: r) vs t = (if y.parent = t ∧ y.name ∈ vs then 1 else 0) + cnt r vs t := by
  unfold cnt
  rw [List.filter_cons]
  by_cases h1 : y.parent = t
  · by_cases h2 : y.name ∈ vs
    · simp [h1, h2]; omega
    · simp [h1, h2]
  · simp [h1]
theorem kid_adm (us : List ByteArray) (s : ByteArray) (v : V3) (t : ByteArray) : ∀ l, kidS (l.map (admF us s v)) t = addV (kidS l t) (timesV (cnt l us t) v)
  | [] => (addV_z _).symm
  | y :: r => by
    rw [List.map_cons, kidS, kidS, cnt_cons, kid_adm us s v t r]
    show (if y.parent = t then addV (if y.name ∈ us then addV y.sub v else y.sub) _ else _) = _
    by_cases h1 : y.parent = t
    · rw [if_pos h1, if_pos h1]
      by_cases h2 : y.name ∈ us
      · rw [if_pos h2, if_pos ⟨h1, h2⟩, Nat.add_comm, timesV, addV_assoc, addV_assoc, addV_left v]
      · rw [if_neg h2, if_neg fun h => h2 h.2, Nat.zero_add, addV_assoc]
    · rw [if_neg h1, if_neg h1, if_neg fun h => h1 h.1, Nat.zero_add]
theorem look_map {f : I12 → I12} (hn : ∀ x, (f x).name = x.name) (l : List I12) (s : ByteArray) : look (l.map f) s = (look l s).map f := by
  unfold look
  rw [List.find?_map]
  congr 2
  funext x
  simp [Function.comp, hn]
theorem upF_map {f : I12 → I12} (hn : ∀ x, (f x).name = x.name) (hp : ∀ x, (f x).parent = x.parent) (l : List I12) : ∀ n s, upF (l.map f) n s = upF l n s
  | 0, s => rfl
  | n + 1, s => by
    rw [upF_look, upF_look, look_map hn]
    cases look l s with
    | none => rfl
    | some x =>
      show (f x).name :: upF (l.map f) n (f x).parent = _
      rw [hn, hp, upF_map hn hp l n]
theorem upI_map {f : I12 → I12} (hn : ∀ x, (f x).name = x.name) (hp : ∀ x, (f x).parent = x.parent) (l : List I12) (s : ByteArray) : upI (l.map f) s = upI l s := by
  unfold upI
  rw [List.length_map, upF_map hn hp]
theorem RT.up {l : List I12} (h : RT l) (s : ByteArray) : (upI l s).length ≤ l.length := by
  cases hs : look l s with
  | none => unfold upI; rw [upF_lnone hs]; exact Nat.zero_le _
  | some x =>
    obtain ⟨hx, rfl⟩ := look_name hs
    exact (two_iff.1 (h.two x hx)).2
theorem adm_sum {l : List I12} (h : RT l) (s : ByteArray) (v : V3) {x : I12} (hx : x ∈ l) : addV (admF (upI l s) s v x).own (kidS (l.map (admF (upI l s) s v)) x.name) = (admF (upI l s) s v x).sub := by
  rw [kid_adm]
  have c : (if x.name = s then 1 else 0) + cnt l (upI l s) x.name = if x.name ∈ upI l s then 1 else 0 := chain_cnt h.srt.uq (l.length + 1) s (by have := h.up s; unfold upI at this; omega) x hx
  have t := (two_iff.1 (h.two x hx)).1
  show addV (if x.name = s then addV x.own v else x.own) _ = (if x.name ∈ upI l s then addV x.sub v else x.sub)
  by_cases a : x.name = s
  · by_cases b : x.name ∈ upI l s
    · rw [if_pos a, if_pos b] at c
      rw [if_pos a, if_pos b, show cnt l (upI l s) x.name = 0 by omega, timesV, addV_z, ← t, addV_assoc, addV_assoc, addV_comm v]
    · rw [if_pos a, if_neg b] at c; omega
  · by_cases b : x.name ∈ upI l s
    · rw [if_neg a, if_pos b] at c
      rw [if_neg a, if_pos b, show cnt l (upI l s) x.name = 0 + 1 by omega, timesV, timesV, addV_z, ← t, addV_assoc]
    · rw [if_neg a, if_neg b] at c
      rw [if_neg a, if_neg b, show cnt l (upI l s) x.name = 0 by omega, timesV, addV_z, t]
/-- What is let in where there is room leaves a tree right. -/
theorem adm_right {l : List I12} (h : RT l) {s : ByteArray} {v : V3} (hv : mayV v = true) (hroom : ∀ x ∈ l, x.name ∈ upI l s → leV (addV x.sub v) x.lim = true) : RT (l.map (admF (upI l s) s v)) := by
  have hv' := may_bounds hv
  have hsub : ∀ x ∈ l, leV (admF (upI l s) s v x).sub x.lim = true ∧ mayV (admF (upI l s) s v x).sub = true := by
    intro x hx
    obtain ⟨-, g2, -, -, -, g6, g7⟩ := one_iff.1 (h.one x hx)
    show leV (if x.name ∈ upI l s then addV x.sub v else x.sub) x.lim = true ∧ mayV (if x.name ∈ upI l s then addV x.sub v else x.sub) = true
    split
    · rename_i hm
      have hr := hroom x hx hm
      refine ⟨hr, may_iff.2 ?_⟩
      have e1 := le_iff.1 hr
      have e2 := may_bounds g2
      have e3 := may_bounds g7
      simp only [addV] at e1 ⊢
      omega
    · exact ⟨g6, g7⟩
  refine ⟨by rw [List.length_map]; exact h.len, List.pairwise_map.2 h.srt, fun x' hx' => ?_, fun x' hx' => ?_⟩
  · obtain ⟨x, hx, rfl⟩ := List.mem_map.1 hx'
    obtain ⟨g1, g2, g3, g4, g5, g6, g7⟩ := one_iff.1 (h.one x hx)
    obtain ⟨k1, k2⟩ := hsub x hx
    refine one_iff.2 ⟨g1, g2, ?_, ?_, g5, k1, k2⟩
    · have e := adm_sum h s v hx
      have ge := kid_ge x.name (l.map (admF (upI l s) s v)) (fun y hy => by
        obtain ⟨z, hz, rfl⟩ := List.mem_map.1 hy
        exact (hsub z hz).2)
      have e2 := may_bounds k2
      have e3 := may_bounds g3
      have e4 : addV x.own v = addV x.own v := rfl
      refine may_iff.2 ?_
      have ec : (admF (upI l s) s v x).own.c + (kidS (l.map (admF (upI l s) s v)) x.name).c = (admF (upI l s) s v x).sub.c := congrArg V3.c e
      have em : (admF (upI l s) s v x).own.m + (kidS (l.map (admF (upI l s) s v)) x.name).m = (admF (upI l s) s v x).sub.m := congrArg V3.m e
      have ep : (admF (upI l s) s v x).own.p + (kidS (l.map (admF (upI l s) s v)) x.name).p = (admF (upI l s) s v x).sub.p := congrArg V3.p e
      have lo : 0 ≤ (admF (upI l s) s v x).own.c ∧ 0 ≤ (admF (upI l s) s v x).own.m ∧ 0 ≤ (admF (upI l s) s v x).own.p := by
        show 0 ≤ (if x.name = s then addV x.own v else x.own).c ∧ 0 ≤ (if x.name = s then addV x.own v else x.own).m ∧ 0 ≤ (if x.name = s then addV x.own v else x.own).p
        split
        · simp only [addV]; omega
        · omega
      omega
    · rcases g4 with g4 | ⟨y, hy, e⟩
      · exact .inl g4
      · exact .inr ⟨_, List.mem_map.2 ⟨y, hy, rfl⟩, e⟩
  · obtain ⟨x, hx, rfl⟩ := List.mem_map.1 hx'
    refine two_iff.2 ⟨adm_sum h s v hx, ?_⟩
    rw [upI_map (f := admF (upI l s) s v) (fun _ => rfl) (fun _ => rfl), List.length_map]
    exact h.up _
/-- A new node. -/
def newI (s p : ByteArray) (lim : V3) : I12 := ⟨s, p, lim, z3, z3, 1⟩
theorem name_ne {s : ByteArray} (h : nameB s = true) : s ≠ ⟨#[]⟩ := by
  unfold nameB at h
  simp only [Bool.and_eq_true] at h
  intro e
  rw [decide_eq_true e] at h
  exact absurd h.1 (by decide)
theorem mem_ins {a b : List I12} {y x : I12} : x ∈ a ++ y :: b ↔ x = y ∨ x ∈ a ++ b := by simp [or_left_comm]
theorem look_ins {a b : List I12} {y : I12} {t : ByteArray} (h : y.name ≠ t) : look (a ++ y :: b) t = look (a ++ b) t := by
  unfold look
  rw [List.find?_append, List.find?_append, List.find?_cons]
  simp [h]
theorem upF_ins {a b : List I12} {y : I12} (hpar : ∀ x ∈ a ++ b, x.parent ≠ y.name) : ∀ n t, y.name ≠ t → upF (a ++ y :: b) n t = upF (a ++ b) n t
  | 0, t, _ => rfl
  | n + 1, t, h => by
    rw [upF_look, upF_look, look_ins h]
    cases hl : look (a ++ b) t with
    | none => rfl
    | some x =>
      show x.name :: _ = x.name :: _
      rw [upF_ins hpar n x.parent (fun e => hpar x (look_name hl).1 e.symm)]
theorem ins_right {a b : List I12} {s p : ByteArray} {lim : V3} (h : RT (a ++ b)) (ha : ∀ x ∈ a, ltS x.name s = true) (hb : ∀ x ∈ b, ltS s x.name = true) (hs : nameB s = true) (hm : mayV lim = true)
    (hp : p = ⟨#[]⟩ ∨ ∃ y ∈ a ++ b, y.name = p) (hl : (a ++ b).length < 120) : RT (a ++ newI s p lim :: b) := by
  have hno : ∀ x ∈ a ++ b, x.name ≠ s := by
    intro x hx
    rcases List.mem_append.1 hx with hx | hx
    · exact ltS_ne (ha x hx)
    · exact (ltS_ne (hb x hx)).symm
  have hps : p ≠ s := by
    rcases hp with rfl | ⟨y, hy, rfl⟩
    · exact (name_ne hs).symm
    · exact hno y hy
  have hpar : ∀ x ∈ a ++ b, x.parent ≠ s := by
    intro x hx
    obtain ⟨-, -, -, g4, -⟩ := one_iff.1 (h.one x hx)
    rcases g4 with e | ⟨y, hy, e⟩
    · rw [e]; exact (name_ne hs).symm
    · rw [← e]; exact hno y hy
  have hlen : (a ++ newI s p lim :: b).length = (a ++ b).length + 1 := by simp; omega
  refine ⟨by omega, ?_, fun x hx => ?_, fun x hx => ?_⟩
  · have h1 := h.srt
    unfold Srt at h1 ⊢
    rw [List.pairwise_append] at h1 ⊢
    obtain ⟨h2, h3, h4⟩ := h1
    refine ⟨h2, List.pairwise_cons.2 ⟨fun x hx => hb x hx, h3⟩, fun x hx y hy => ?_⟩
    rcases List.mem_cons.1 hy with rfl | hy
    · exact ha x hx
    · exact h4 x hx y hy
  · rcases mem_ins.1 hx with rfl | hx
    · refine one_iff.2 ⟨hs, hm, (show mayV z3 = true by decide), ?_, ⟨(show (1 : Int) ≤ 1 by decide), (show (1 : Int) ≤ 9007199254740992 by decide)⟩, ?_, (show mayV z3 = true by decide)⟩
      · rcases hp with e | ⟨y, hy, e⟩
        · exact .inl e
        · exact .inr ⟨y, mem_ins.2 (.inr hy), e⟩
      · have := may_bounds hm
        refine le_iff.2 ?_
        show (0 : Int) ≤ lim.c ∧ (0 : Int) ≤ lim.m ∧ (0 : Int) ≤ lim.p
        omega
    · obtain ⟨g1, g2, g3, g4, g5, g6, g7⟩ := one_iff.1 (h.one x hx)
      refine one_iff.2 ⟨g1, g2, g3, ?_, g5, g6, g7⟩
      rcases g4 with e | ⟨y, hy, e⟩
      · exact .inl e
      · exact .inr ⟨y, mem_ins.2 (.inr hy), e⟩
  · rcases mem_ins.1 hx with rfl | hx
    · refine two_iff.2 ⟨?_, ?_⟩
      · show addV z3 (kidS _ s) = z3
        rw [z_addV, kid_none]
        intro y hy
        rcases mem_ins.1 hy with rfl | hy
        · exact hps
        · exact hpar y hy
      · have e : upI (a ++ newI s p lim :: b) s = s :: upF (a ++ newI s p lim :: b) ((a ++ b).length + 1) p := by
          unfold upI
          rw [hlen, upF_look, show look (a ++ newI s p lim :: b) s = some (newI s p lim) from by
            unfold look
            rw [List.find?_append, show (a.find? fun x => decide (x.name = s)) = none from by
              rw [List.find?_eq_none]
              intro x hx
              simpa using ltS_ne (ha x hx), List.find?_cons]
            simp [newI]]
          rfl
        show (upI _ s).length ≤ _
        rw [e, upF_ins (y := newI s p lim) hpar _ _ (show s ≠ p from hps.symm), List.length_cons, hlen]
        have := h.up p
        unfold upI at this
        omega
    · obtain ⟨t1, t2⟩ := two_iff.1 (h.two x hx)
      refine two_iff.2 ⟨?_, ?_⟩
      · rw [← t1, kid_app, kid_app, kidS]
        show addV x.own (addV (kidS a x.name) (if p = x.name then addV z3 (kidS b x.name) else kidS b x.name)) = _
        rw [z_addV, ite_self]
      · unfold upI at t2 ⊢
        have hc := upF_next (l := a ++ b) ((a ++ b).length + 1) x.name (by omega)
        rw [hlen, upF_ins (y := newI s p lim) hpar _ _ (show s ≠ x.name from (hno x hx).symm), hc]
        omega
/-- The tree with a new node, at its place. -/
def createL (l : List I12) (s p : ByteArray) (lim : V3) : List I12 := (l.takeWhile fun x => ltS x.name s) ++ newI s p lim :: (l.dropWhile fun x => ltS x.name s)
theorem create_right {l : List I12} {s p : ByteArray} {lim : V3} (h : RT l) (hs : nameB s = true) (hm : mayV lim = true) (hn : look l s = none) (hp : p = ⟨#[]⟩ ∨ ∃ y ∈ l, y.name = p) (hl : l.length < 120) : RT (createL l s p lim) := by
  have e : (l.takeWhile fun x => ltS x.name s) ++ (l.dropWhile fun x => ltS x.name s) = l := List.takeWhile_append_dropWhile
  unfold createL
  refine ins_right (by rw [e]; exact h) (fun x hx => List.all_eq_true.1 (List.all_takeWhile (p := fun x : I12 => ltS x.name s) (l := l)) x hx) ?_ hs hm (by rw [e]; exact hp) (by rw [e]; exact hl)
  have h1 := h.srt
  unfold Srt at h1
  rw [← e, List.pairwise_append] at h1
  have h2 := h1.2.1
  have hno : ∀ x ∈ l.dropWhile (fun x => ltS x.name s), x.name ≠ s := fun x hx => look_none.1 hn x (by rw [← e]; exact List.mem_append_right _ hx)
  cases hd : l.dropWhile (fun x => ltS x.name s) with
  | nil => intro x hx; cases hx
  | cons y r =>
    rw [hd] at h2 hno
    have hy : ltS y.name s = false := by
      have := List.head?_dropWhile_not (fun x : I12 => ltS x.name s) l
      rw [hd] at this
      simpa using this
    have hy2 := ltS_tot hy (hno y List.mem_cons_self)
    intro x hx
    rcases List.mem_cons.1 hx with rfl | hx
    · exact hy2
    · exact ltS_trans hy2 ((List.pairwise_cons.1 h2).1 x hx)
end Go.Proofs.Ytmpakgabehplbaa
namespace Go.Proofs.Ytmpakgabehplbaa
open Go.RowKit
set_option linter.unusedVariables false
set_option linter.unusedSimpArgs false
theorem look_iff {l : List I12} {s : ByteArray} : look l s = none ↔ iIdx l s = none := by
  rw [look_none]
  constructor
  · intro h
    cases hi : iIdx l s with
    | none => rfl
    | some k =>
      obtain ⟨x, hx, hn, -⟩ := iIdx_spec hi
      exact absurd hn (h x (List.mem_of_getElem? hx))
  · exact iIdx_no
/-- What a Create says. -/
def createE (l : List I12) (s p : ByteArray) (lim : V3) : Nat :=
  if (nameB s && mayV lim) = false then 1 else if iIdx l s ≠ none then 3 else if p ≠ ⟨#[]⟩ ∧ iIdx l p = none then 2 else if 120 ≤ l.length then 4 else 0
theorem create_ok {l : List I12} {s p : ByteArray} {lim : V3} (h : RT l) (h0 : createE l s p lim = 0) : RT (createL l s p lim) := by
  unfold createE at h0
  split at h0
  · cases h0
  · rename_i g1
    split at h0
    · cases h0
    · rename_i g2
      split at h0
      · cases h0
      · rename_i g3
        split at h0
        · cases h0
        · rename_i g4
          simp only [Bool.not_eq_false, Bool.and_eq_true] at g1
          refine create_right h g1.1 g1.2 (look_iff.2 (Classical.byContradiction g2)) ?_ (by omega)
          by_cases hp : p = ⟨#[]⟩
          · exact .inl hp
          · refine .inr ?_
            have : iIdx l p ≠ none := fun e => g3 ⟨hp, e⟩
            refine idx_some.1 ?_
            cases hi : iIdx l p with
            | none => exact absurd hi this
            | some k => rfl
theorem create_len (l : List I12) (s p : ByteArray) (lim : V3) : (createL l s p lim).length = l.length + 1 := by
  unfold createL
  have e := congrArg List.length (List.takeWhile_append_dropWhile (p := fun x : I12 => ltS x.name s) (l := l))
  rw [List.length_append] at e
  rw [List.length_append, List.length_cons]
  omega
def roomB (l : List I12) (us : List ByteArray) (v : V3) : Bool := l.all fun x => !(decide (x.name ∈ us)) || leV (addV x.sub v) x.lim
/-- What an Admit says. -/
def admE (l : List I12) (s : ByteArray) (v : V3) : Nat := if mayV v = false then 1 else if upI l s = [] then 2 else if roomB l (upI l s) v = false then 12 else 0
def admL (l : List I12) (s : ByteArray) (v : V3) : List I12 := l.map (admF (upI l s) s v)
theorem adm_ok {l : List I12} {s : ByteArray} {v : V3} (h : RT l) (h0 : admE l s v = 0) : RT (admL l s v) := by
  unfold admE at h0
  split at h0
  · cases h0
  · rename_i g1
    split at h0
    · cases h0
    · split at h0
      · cases h0
      · rename_i g3
        simp only [Bool.not_eq_false] at g1 g3
        refine adm_right h g1 fun x hx hm => ?_
        have := List.all_eq_true.1 g3 x hx
        simpa [hm] using this
theorem adm_len (l : List I12) (s : ByteArray) (v : V3) : (admL l s v).length = l.length := List.length_map _
def nameAt (l : List I12) (k : Nat) : ByteArray := match l[k]? with | some x => x.name | none => ⟨#[]⟩
def letS (k : Nat) : ByteArray := ⟨#[UInt8.ofNat (97 + k)]⟩
/-- One node more, and something let in, by three numbers. -/
def parM (l : List I12) (n : Nat) : ByteArray := if 0 < l.length ∧ 0 < n % 3 then nameAt l (n / 3 % l.length) else ⟨#[]⟩
def limM (a : Nat) : V3 := ⟨20 + (a : Int), 20 + (a : Int), 20 + (a : Int)⟩
def useM (b : Nat) : V3 := ⟨((b % 16 : Nat) : Int), ((b % 16 / 2 : Nat) : Int), ((b % 16 % 3 : Nat) : Int)⟩
def admM (l : List I12) (b : Nat) : List I12 := if admE l (nameAt l (b / 16 % l.length)) (useM b) = 0 then admL l (nameAt l (b / 16 % l.length)) (useM b) else l
def stepM (l : List I12) (n a b : Nat) : List I12 := if createE l (letS (l.length * 5 % 24)) (parM l n) (limM a) = 0 then admM (createL l (letS (l.length * 5 % 24)) (parM l n) (limM a)) b else l
def makeT : List Nat → List I12 → List I12
  | n :: a :: b :: r, l => if l.length < 24 then makeT r (stepM l n a b) else l
  | _, l => l
theorem adm_m {l : List I12} (h : RT l) (b : Nat) : RT (admM l b) ∧ (admM l b).length = l.length := by
  unfold admM
  split
  · rename_i h0
    exact ⟨adm_ok h h0, adm_len ..⟩
  · exact ⟨h, rfl⟩
theorem step_m {l : List I12} (h : RT l) (n a b : Nat) : RT (stepM l n a b) ∧ (stepM l n a b).length ≤ l.length + 1 := by
  unfold stepM
  split
  · rename_i h0
    obtain ⟨h1, h2⟩ := adm_m (create_ok h h0) b
    rw [create_len] at h2
    exact ⟨h1, by omega⟩
  · exact ⟨h, by omega⟩
theorem RT.nil : RT [] := ⟨Nat.zero_le _, List.Pairwise.nil, fun x hx => (by cases hx), fun x hx => (by cases hx)⟩
theorem make_right : ∀ (ns : List Nat) (l : List I12), RT l → l.length ≤ 24 → RT (makeT ns l) ∧ (makeT ns l).length ≤ 24
  | n :: a :: b :: r, l, h, hl => by
    rw [makeT]
    split
    · obtain ⟨h1, h2⟩ := step_m h n a b
      exact make_right r _ h1 (by omega)
    · exact ⟨h, hl⟩
  | [], l, h, hl => ⟨h, hl⟩
  | [n], l, h, hl => ⟨h, hl⟩
  | [n, a], l, h, hl => ⟨h, hl⟩
/-- Sums over a tree. -/
def sumF (f : I12 → V3) : List I12 → V3
  | [] => z3
  | x :: r => addV (f x) (sumF f r)
theorem sumF_congr {f g : I12 → V3} : ∀ {l : List I12}, (∀ x ∈ l, f x = g x) → sumF f l = sumF g l
  | [], _ => rfl
  | x :: r, h => by rw [sumF, sumF, h x List.mem_cons_self, sumF_congr fun y hy => h y (List.mem_cons_of_mem _ hy)]
theorem sumF_add (f g : I12 → V3) : ∀ l, sumF (fun x => addV (f x) (g x)) l = addV (sumF f l) (sumF g l)
  | [] => (addV_z _).symm
  | x :: r => by rw [sumF, sumF, sumF, sumF_add f g r]; simp only [addV, V3.mk.injEq]; omega
theorem sumF_z : ∀ l, sumF (fun _ => z3) l = z3
  | [] => rfl
  | x :: r => by rw [sumF, sumF_z r]; rfl
def kidG (g : I12 → V3) (l : List I12) (s : ByteArray) : V3 := sumF (fun y => if y.parent = s then g y else z3) l
theorem kid_g (s : ByteArray) : ∀ l, kidS l s = kidG (fun y => y.sub) l s
  | [] => rfl
  | y :: r => by
    rw [kidS, kid_g s r]
    show _ = addV (if y.parent = s then y.sub else z3) (kidG _ r s)
    split
    · rfl
    · exact (z_addV _).symm
/-- Sum by those above, or at once. -/
theorem sum_swap (g : I12 → V3) (m : List I12) : ∀ l, Uq l → sumF (fun x => kidG g m x.name) l = sumF (fun y => if (l.any fun x => decide (x.name = y.parent)) = true then g y else z3) m
  | [], _ => (sumF_z m).symm
  | x :: r, hu => by
    unfold Uq at hu
    rw [List.pairwise_cons] at hu
    rw [sumF, sum_swap g m r hu.2]
    unfold kidG
    rw [← sumF_add]
    refine sumF_congr fun y hy => ?_
    by_cases h1 : y.parent = x.name
    · have h2 : (r.any fun x => decide (x.name = y.parent)) = false := by
        rw [List.any_eq_false]
        intro z hz
        have := hu.1 z hz
        simp only [decide_eq_true_eq, h1]
        exact fun e => this e.symm
      rw [if_pos h1, if_neg (by rw [h2]; decide), if_pos (by simp [List.any_cons, h1]), addV_z]
    · rw [if_neg h1, z_addV]
      have : (x :: r).any (fun x => decide (x.name = y.parent)) = r.any fun x => decide (x.name = y.parent) := by
        rw [List.any_cons, decide_eq_false (fun e => h1 e.symm), Bool.false_or]
      rw [this]
theorem sum_all {l : List I12} (h : RT l) (g : I12 → V3) : addV (sumF (fun x => kidG g l x.name) l) (kidG g l ⟨#[]⟩) = sumF g l := by
  rw [sum_swap g l l h.srt.uq]
  unfold kidG
  rw [← sumF_add]
  refine sumF_congr fun y hy => ?_
  obtain ⟨-, -, -, g4, -⟩ := one_iff.1 (h.one y hy)
  by_cases e : y.parent = ⟨#[]⟩
  · have h2 : (l.any fun x => decide (x.name = y.parent)) = false := by
      rw [List.any_eq_false]
      intro z hz
      obtain ⟨g1, -⟩ := one_iff.1 (h.one z hz)
      simp only [decide_eq_true_eq, e]
      exact name_ne g1
    rw [if_neg (by rw [h2]; decide), if_pos e, z_addV]
  · rcases g4 with e2 | ⟨z, hz, hze⟩
    · exact absurd e2 e
    · rw [if_neg e, if_pos (by rw [List.any_eq_true]; exact ⟨z, hz, decide_eq_true hze⟩), addV_z]
/-- What is in use at the top is all that is in use. -/
theorem own_top {l : List I12} (h : RT l) : sumF (fun x => x.own) l = kidS l ⟨#[]⟩ := by
  have e1 := sum_all h (fun y => y.sub)
  have e2 : sumF (fun x => x.sub) l = addV (sumF (fun x => x.own) l) (sumF (fun x => kidG (fun y => y.sub) l x.name) l) := by
    rw [← sumF_add]
    exact sumF_congr fun x hx => by rw [← kid_g]; exact (two_iff.1 (h.two x hx)).1.symm
  rw [← e1, ← kid_g] at e2
  have hc := congrArg V3.c e2
  have hm := congrArg V3.m e2
  have hp := congrArg V3.p e2
  simp only [addV] at hc hm hp
  have : ∀ a b : V3, a.c = b.c → a.m = b.m → a.p = b.p → a = b := by
    rintro ⟨a1, a2, a3⟩ ⟨b1, b2, b3⟩ h1 h2 h3
    simp only at h1 h2 h3
    rw [h1, h2, h3]
  exact this _ _ (by omega) (by omega) (by omega)
theorem below_cnt (s : ByteArray) : ∀ l, kidG (fun _ => ⟨1, 0, 0⟩) l s = ⟨((belowI l s).length : Int), 0, 0⟩
  | [] => rfl
  | y :: r => by
    show addV (if y.parent = s then _ else z3) (kidG _ r s) = _
    rw [below_cnt s r]
    unfold belowI
    rw [List.filter_cons]
    by_cases h : y.parent = s
    · rw [if_pos h, if_pos (by simpa using h)]
      simp only [addV, List.map_cons, List.length_cons, V3.mk.injEq]
      exact ⟨by omega, rfl, rfl⟩
    · rw [if_neg h, if_neg (by simpa using h), z_addV]
theorem ones_len : ∀ l, sumF (fun _ => ⟨1, 0, 0⟩) l = ⟨(l.length : Int), 0, 0⟩
  | [] => rfl
  | y :: r => by
    rw [sumF, ones_len r]
    simp only [addV, List.length_cons, V3.mk.injEq]
    exact ⟨by omega, rfl, rfl⟩
/-- How many are below the first k. -/
def belowN (l : List I12) : Nat → Nat
  | 0 => (belowI l ⟨#[]⟩).length
  | k + 1 => belowN l k + (belowI l (nameAt l k)).length
theorem below_sum (l : List I12) : ∀ k, k ≤ l.length → ((belowN l k : Nat) : Int) = ((belowI l ⟨#[]⟩).length : Int) + (sumF (fun x => kidG (fun _ => ⟨1, 0, 0⟩) l x.name) (l.take k)).c
  | 0, _ => by simp [belowN, sumF, z3]
  | k + 1, hk => by
    have ih := below_sum l k (by omega)
    have app : ∀ (f : I12 → V3) (a b : List I12), sumF f (a ++ b) = addV (sumF f a) (sumF f b) := by
      intro f a b
      induction a with
      | nil => exact (z_addV _).symm
      | cons x r ih => rw [List.cons_append, sumF, sumF, ih, addV_assoc]
    rw [List.take_add_one, List.getElem?_eq_getElem (show k < l.length by omega), app]
    simp only [Option.toList_some, sumF, addV_z]
    rw [below_cnt, belowN]
    unfold nameAt
    rw [List.getElem?_eq_getElem (show k < l.length by omega)]
    simp only [addV]
    omega
theorem below_all {l : List I12} (h : RT l) : belowN l l.length = l.length := by
  have e1 := congrArg V3.c (sum_all h (fun _ => ⟨1, 0, 0⟩))
  have e2 := below_sum l l.length (Nat.le_refl _)
  rw [List.take_length] at e2
  rw [below_cnt, ones_len] at e1
  simp only [addV] at e1
  omega
/-- Nobody is beyond a limit above. -/
theorem le_trans {a b c : V3} (h1 : leV a b = true) (h2 : leV b c = true) : leV a c = true := by
  rw [le_iff] at *; omega
theorem le_self (a : V3) : leV a a = true := by rw [le_iff]; omega
theorem kid_le {s : ByteArray} {x : I12} (hp : x.parent = s) : ∀ l : List I12, (∀ y ∈ l, mayV y.sub = true) → x ∈ l → leV x.sub (kidS l s) = true
  | [], _, h => by cases h
  | y :: r, hm, hx => by
    have hr := fun z hz => hm z (List.mem_cons_of_mem y hz)
    have hy := may_bounds (hm y List.mem_cons_self)
    rcases List.mem_cons.1 hx with rfl | hx
    · rw [kidS, if_pos hp]
      have := kid_ge s r hr
      rw [le_iff]; simp only [addV]; omega
    · have ih := kid_le hp r hr hx
      rw [kidS]
      split
      · rw [le_iff] at *; simp only [addV]; omega
      · exact ih
theorem RT.may {l : List I12} (h : RT l) : ∀ y ∈ l, mayV y.sub = true := fun y hy => (one_iff.1 (h.one y hy)).2.2.2.2.2.2
theorem sub_par {l : List I12} (h : RT l) {x y : I12} (hx : x ∈ l) (hy : y ∈ l) (hp : y.name = x.parent) : leV x.sub y.sub = true := by
  have t := (two_iff.1 (h.two y hy)).1
  have k := kid_le hp.symm l h.may hx
  have o := may_bounds (one_iff.1 (h.one y hy)).2.2.1
  rw [← t]
  rw [le_iff] at *; simp only [addV]; omega
theorem own_sub {l : List I12} (h : RT l) {x : I12} (hx : x ∈ l) : leV x.own x.sub = true := by
  have t := (two_iff.1 (h.two x hx)).1
  have k := kid_ge x.name l h.may
  rw [← t, le_iff]; simp only [addV]; omega
theorem sub_up {l : List I12} (h : RT l) : ∀ n x, x ∈ l → ∀ t ∈ upF l n x.name, ∃ y ∈ l, y.name = t ∧ leV x.sub y.sub = true
  | 0, x, hx, t, ht => by cases ht
  | n + 1, x, hx, t, ht => by
    rw [upF_lsome (look_mem h.srt.uq hx)] at ht
    rcases List.mem_cons.1 ht with rfl | ht
    · exact ⟨x, hx, rfl, le_self _⟩
    · cases hl : look l x.parent with
      | none => rw [upF_lnone hl] at ht; cases ht
      | some y =>
        obtain ⟨hy, hn⟩ := look_name hl
        rw [← hn] at ht
        obtain ⟨z, hz, h1, h2⟩ := sub_up h n y hy t ht
        exact ⟨z, hz, h1, le_trans (sub_par h hx hy hn) h2⟩
theorem own_up {l : List I12} (h : RT l) {x : I12} (hx : x ∈ l) {t : ByteArray} (ht : t ∈ upI l x.name) : ∃ (j : Nat) (y : I12), iIdx l t = some j ∧ l[j]? = some y ∧ leV x.own y.lim = true := by
  obtain ⟨y, hy, hn, hle⟩ := sub_up h _ x hx t ht
  have e := look_idx (l := l) (s := t)
  rw [← hn, look_mem h.srt.uq hy] at e
  cases hi : iIdx l y.name with
  | none => rw [hi] at e; cases e
  | some j =>
    rw [hi] at e
    refine ⟨j, y, by rw [← hn]; exact hi, e.symm, ?_⟩
    exact le_trans (own_sub h hx) (le_trans hle (one_iff.1 (h.one y hy)).2.2.2.2.2.1)
theorem up_head {l : List I12} (h : RT l) {x : I12} (hx : x ∈ l) : ∃ r, upI l x.name = x.name :: r := ⟨_, upF_lsome (look_mem h.srt.uq hx) _⟩
/-- Who is below somebody: found, with that parent, in order. -/
theorem below_find {l : List I12} (h : RT l) {s t : ByteArray} (ht : t ∈ belowI l s) : ∃ (j : Nat) (y : I12), iIdx l t = some j ∧ l[j]? = some y ∧ y.parent = s := by
  unfold belowI at ht
  obtain ⟨y, hy, hn⟩ := List.mem_map.1 ht
  rw [List.mem_filter, decide_eq_true_eq] at hy
  have e := look_idx (l := l) (s := t)
  rw [← hn, look_mem h.srt.uq hy.1] at e
  cases hi : iIdx l y.name with
  | none => rw [hi] at e; cases e
  | some j =>
    rw [hi] at e
    exact ⟨j, y, by rw [← hn]; exact hi, e.symm, hy.2⟩
theorem below_srt {l : List I12} (h : RT l) (s : ByteArray) : (belowI l s).Pairwise fun a b => ltS a b = true := by
  unfold belowI
  rw [List.pairwise_map]
  exact List.Pairwise.filter _ h.srt
end Go.Proofs.Ytmpakgabehplbaa
