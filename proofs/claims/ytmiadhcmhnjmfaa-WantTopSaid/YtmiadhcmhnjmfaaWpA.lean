/- Package want: how deep each stands, row by row from the root (pure). -/
import Derived.Test.YtmiadhcmhnjmfaaWnF
namespace Go.Proofs.Ytmiadhcmhnjmfaa
set_option linter.unusedVariables false
set_option linter.unusedSimpArgs false
/-- The places of those whose Parent s is, of the first k. -/
def kidsI (l : List W5) (s : ByteArray) (k : Nat) : List Nat := (List.range k).filter fun i => match l[i]? with | some x => decide (x.parent = s) | none => false
theorem kidsI_step {l : List W5} {s : ByteArray} {k : Nat} {x : W5} (hx : l[k]? = some x) : kidsI l s (k + 1) = if x.parent = s then kidsI l s k ++ [k] else kidsI l s k := by
  unfold kidsI
  rw [List.range_succ, List.filter_append]
  by_cases h : x.parent = s
  · simp [hx, h]
  · simp [hx, h]
theorem kidsI_mem {l : List W5} {s : ByteArray} {k i : Nat} : i ∈ kidsI l s k ↔ i < k ∧ ∃ x, l[i]? = some x ∧ x.parent = s := by
  unfold kidsI
  rw [List.mem_filter, List.mem_range]
  constructor
  · rintro ⟨h1, h2⟩
    refine ⟨h1, ?_⟩
    split at h2
    · rename_i x hx; exact ⟨x, hx, by simpa using h2⟩
    · cases h2
  · rintro ⟨h1, x, hx, hp⟩
    refine ⟨h1, ?_⟩
    rw [hx]; simpa using hp
def nmI (l : List W5) (i : Nat) : ByteArray := match l[i]? with | some x => x.name | none => ⟨#[]⟩
theorem nmI_at {l : List W5} {i : Nat} {x : W5} (hx : l[i]? = some x) : nmI l i = x.name := by unfold nmI; rw [hx]
theorem anyB_iff (s : ByteArray) (l : List ByteArray) : (l.any fun t => decide (t = s)) = true ↔ s ∈ l := by
  rw [List.any_eq_true]
  constructor
  · rintro ⟨t, ht, e⟩; have := of_decide_eq_true e; subst this; exact ht
  · intro h; exact ⟨s, h, by simp⟩
instance decMemB (s : ByteArray) (l : List ByteArray) : Decidable (s ∈ l) := decidable_of_iff _ (anyB_iff s l)
/-- What is left in the map of those below s. -/
def leftI (l : List W5) (del : List ByteArray) (s : ByteArray) : List Nat := if s ∈ del then [] else kidsI l s l.length
/-- How many are left in the map. -/
def potI (l : List W5) (del : List ByteArray) : Nat := ((List.range l.length).filter fun i => match l[i]? with | some x => decide (x.parent ∉ del) | none => false).length
theorem filt_part {α : Type} (p q r : α → Bool) (h : ∀ x, p x = (q x || r x)) (hd : ∀ x, ¬ (q x = true ∧ r x = true)) : ∀ l : List α, (l.filter p).length = (l.filter q).length + (l.filter r).length
  | [] => rfl
  | a :: l => by
    have ih := filt_part p q r h hd l
    have ha := h a
    have hda := hd a
    cases hq : q a <;> cases hr : r a
    · simp [List.filter_cons, ha, hq, hr, ih]
    · simp [List.filter_cons, ha, hq, hr, ih]; omega
    · simp [List.filter_cons, ha, hq, hr, ih]; omega
    · exact absurd ⟨hq, hr⟩ hda
theorem pot_del (l : List W5) (del : List ByteArray) (s : ByteArray) : potI l del = potI l (s :: del) + (leftI l del s).length := by
  unfold leftI
  by_cases h : s ∈ del
  · rw [if_pos h]
    unfold potI
    congr 2
    funext i
    cases hx : l[i]? with
    | none => rfl
    | some x =>
      by_cases e : x.parent = s
      · subst e; simp [h]
      · simp [e]
  · rw [if_neg h]
    unfold potI kidsI
    refine filt_part _ _ _ (fun i => ?_) (fun i => ?_) _
    · cases hx : l[i]? with
      | none => rfl
      | some x =>
        by_cases e : x.parent = s
        · subst e; simp [h]
        · simp [e]
    · cases hx : l[i]? with
      | none => simp
      | some x => simp; intro a _ b; exact absurd b a
theorem pot_start (l : List W5) : potI l [] ≤ l.length := by
  unfold potI
  refine Nat.le_trans (List.length_filter_le ..) ?_
  rw [List.length_range]; exact Nat.le_refl _
/-- One row: what is deleted, what comes next, how deep. -/
def innerI (l : List W5) (d : Nat) : List Nat → List ByteArray → List Nat → List Nat → List ByteArray × List Nat × List Nat
  | [], del, nx, ds => (del, nx, ds)
  | i :: r, del, nx, ds => innerI l d r (nmI l i :: del) (nx ++ leftI l del (nmI l i)) (ds.set i d)
def outerI (l : List W5) : Nat → List Nat → List ByteArray → List Nat → Nat → List Nat
  | 0, _, _, ds, _ => ds
  | f + 1, row, del, ds, d => if row = [] then ds else outerI l f (innerI l d row del [] ds).2.1 (innerI l d row del [] ds).1 (innerI l d row del [] ds).2.2 (d + 1)
/-- How deep each stands. -/
def deepI (l : List W5) : List Nat := outerI l l.length (kidsI l ⟨#[]⟩ l.length) [⟨#[]⟩] (List.replicate l.length 0) 1
theorem outer_nil (l : List W5) (f : Nat) (del : List ByteArray) (ds : List Nat) (d : Nat) : outerI l f [] del ds d = ds := by cases f <;> simp [outerI]
theorem outer_more {l : List W5} {f : Nat} {row : List Nat} (h : row ≠ []) (del : List ByteArray) (ds : List Nat) (d : Nat) : outerI l (f + 1) row del ds d = outerI l f (innerI l d row del [] ds).2.1 (innerI l d row del [] ds).1 (innerI l d row del [] ds).2.2 (d + 1) := by
  rw [outerI, if_neg h]
/-- In a row what is left becomes one less with each. -/
theorem inner_pot (l : List W5) (d : Nat) : ∀ (row : List Nat) (del : List ByteArray) (nx ds : List Nat), potI l (innerI l d row del nx ds).1 + (innerI l d row del nx ds).2.1.length = potI l del + nx.length
  | [], _, _, _ => rfl
  | i :: r, del, nx, ds => by
    rw [innerI, inner_pot l d r, List.length_append, pot_del l del (nmI l i)]
    omega
theorem inner_len (l : List W5) (d : Nat) : ∀ (row : List Nat) (del : List ByteArray) (nx ds : List Nat), (innerI l d row del nx ds).2.2.length = ds.length
  | [], _, _, _ => rfl
  | i :: r, del, nx, ds => by rw [innerI, inner_len l d r, List.length_set]
theorem outer_len (l : List W5) : ∀ (f : Nat) (row : List Nat) (del : List ByteArray) (ds : List Nat) (d : Nat), (outerI l f row del ds d).length = ds.length
  | 0, _, _, _, _ => rfl
  | f + 1, row, del, ds, d => by
    rw [outerI]
    split
    · rfl
    · rw [outer_len l f, inner_len]
theorem deep_len (l : List W5) : (deepI l).length = l.length := by unfold deepI; rw [outer_len, List.length_replicate]
/-- All places of a row are places. -/
theorem left_lt {l : List W5} {del : List ByteArray} {s : ByteArray} {i : Nat} (h : i ∈ leftI l del s) : i < l.length := by
  unfold leftI at h
  split at h
  · cases h
  · exact (kidsI_mem.1 h).1
theorem inner_lt (l : List W5) (d : Nat) : ∀ (row : List Nat) (del : List ByteArray) (nx ds : List Nat), (∀ i ∈ nx, i < l.length) → ∀ i ∈ (innerI l d row del nx ds).2.1, i < l.length
  | [], _, _, _, h => h
  | i :: r, del, nx, ds, h => by
    rw [innerI]
    refine inner_lt l d r _ _ _ fun j hj => ?_
    rcases List.mem_append.1 hj with h2 | h2
    · exact h j h2
    · exact left_lt h2
/-- Each name its own, none is empty. -/
structure OwnN (l : List W5) : Prop where
  ne : ∀ (i : Nat) (x : W5), l[i]? = some x → x.name ≠ ⟨#[]⟩
  inj : ∀ (i j : Nat) (x y : W5), l[i]? = some x → l[j]? = some y → x.name = y.name → i = j
theorem ownN_of {l : List W5} (h : scanE (c1W l) 0 l = 0) : OwnN l := by
  have hz : ∀ (k : Nat) (x : W5), l[k]? = some x → c1W l k x = 0 := by
    intro k
    induction k using Nat.strongRecOn with
    | ind k ih =>
      intro x hx
      by_cases h0 : c1W l k x = 0
      · exact h0
      · have := scanE_at (c1W l) l 0 k x hx (by rw [Nat.zero_add]; exact h0) (fun j y hj hy => by rw [Nat.zero_add]; exact ih j hj y hy)
        rw [h, Nat.zero_add] at this
        exact absurd this.symm h0
  have hlt : ∀ (i j : Nat) (x y : W5), i < j → l[i]? = some x → l[j]? = some y → x.name ≠ y.name := fun i j x y hij hx hy e => by
    have h3 := (c1W_zero (hz j y hy)).2.2
    have : wIdx (l.take j) y.name = none := by cases hw : wIdx (l.take j) y.name with
      | none => rfl
      | some _ => rw [hw] at h3; cases h3
    have h4 := wIdx_no this x (by
      rw [List.mem_iff_getElem?]
      exact ⟨i, by rw [List.getElem?_take, if_pos hij]; exact hx⟩)
    exact h4 e
  refine ⟨fun i x hx e => ?_, fun i j x y hx hy e => ?_⟩
  · have := (c1W_zero (hz i x hx)).1
    unfold nameB at this
    rw [e] at this
    simp at this
  · rcases Nat.lt_trichotomy i j with h | h | h
    · exact absurd e (hlt i j x y h hx hy)
    · exact h
    · exact absurd e.symm (hlt j i y x h hy hx)
theorem OwnN.idx {l : List W5} (h : OwnN l) {i : Nat} {x : W5} (hx : l[i]? = some x) : wIdx l x.name = some i :=
  wIdx_some hx rfl fun j y hj hy e => by
    have := h.inj j i y x hy hx e
    omega
/-- Node i stands so deep. -/
inductive Lev (l : List W5) : Nat → Nat → Prop
  | top {i : Nat} {x : W5} (hx : l[i]? = some x) (hp : x.parent = ⟨#[]⟩) : Lev l i 1
  | down {i j d : Nat} {x y : W5} (hx : l[i]? = some x) (hy : l[j]? = some y) (hp : x.parent = y.name) (h : Lev l j d) : Lev l i (d + 1)
theorem Lev.pos {l : List W5} {i d : Nat} (h : Lev l i d) : 0 < d := by cases h <;> omega
theorem Lev.lt {l : List W5} {i d : Nat} (h : Lev l i d) : i < l.length := by
  cases h with
  | top hx => exact (List.getElem?_eq_some_iff.1 hx).1
  | down hx => exact (List.getElem?_eq_some_iff.1 hx).1
theorem Lev.one {l : List W5} (ho : OwnN l) {i d : Nat} (h : Lev l i d) : ∀ d', Lev l i d' → d = d' := by
  induction h with
  | top hx hp =>
    intro d' h'
    cases h' with
    | top => rfl
    | down hx' hy' hp' _ =>
      rw [hx] at hx'; cases hx'
      rw [hp] at hp'
      exact absurd hp'.symm (ho.ne _ _ hy')
  | down hx hy hp _ ih =>
    intro d' h'
    cases h' with
    | top hx' hp' =>
      rw [hx] at hx'; cases hx'
      rw [hp] at hp'
      exact absurd hp' (ho.ne _ _ hy)
    | down hx' hy' hp' h2 =>
      rw [hx] at hx'; cases hx'
      rw [hp] at hp'
      have := ho.inj _ _ _ _ hy hy' hp'
      subst this
      rw [ih _ h2]
/-- Above a deep one there is one of each lesser depth. -/
theorem Lev.above {l : List W5} {i d : Nat} (h : Lev l i d) : ∀ k, 0 < k → k ≤ d → ∃ j, Lev l j k := by
  induction h with
  | top hx hp => intro k h1 h2; have : k = 1 := by omega
                 subst this; exact ⟨_, .top hx hp⟩
  | @down i j d x y hx hy hp h ih =>
    intro k h1 h2
    by_cases e : k = d + 1
    · subst e; exact ⟨_, .down hx hy hp h⟩
    · exact ih k h1 (by omega)
/-- What the document's Depth makes of them. -/
theorem lev_depth {l : List W5} (ho : OwnN l) {i d : Nat} (h : Lev l i d) : ∀ (f : Nat) (n : Int), d ≤ f → depthU l f (nmI l i) n = n + d := by
  induction h with
  | top hx hp =>
    intro f n hf
    obtain ⟨f, rfl⟩ : ∃ g, f = g + 1 := ⟨f - 1, by omega⟩
    rw [nmI_at hx, depthU_end (ho.idx hx) hx hp]; rfl
  | @down i j d x y hx hy hp h ih =>
    intro f n hf
    obtain ⟨f, rfl⟩ : ∃ g, f = g + 1 := ⟨f - 1, by omega⟩
    rw [nmI_at hx, depthU_up (ho.idx hx) hx (by rw [hp]; exact ho.ne _ _ hy), hp]
    have := ih f (n + 1) (by omega)
    rw [nmI_at hy] at this
    rw [this]
    have e : ((d + 1 : Nat) : Int) = (d : Int) + 1 := by omega
    rw [e]
    omega
theorem nolev_depth {l : List W5} (ho : OwnN l) (hpar : ∀ (i : Nat) (x : W5), l[i]? = some x → x.parent ≠ ⟨#[]⟩ → ∃ (j : Nat) (y : W5), l[j]? = some y ∧ y.name = x.parent) : ∀ (f i : Nat) (n : Int), i < l.length → (∀ d, ¬ Lev l i d) → depthU l f (nmI l i) n = -1
  | 0, i, n, hi, hl => by
    have hx := List.getElem?_eq_getElem hi
    rw [nmI_at hx]
    unfold depthU
    rw [ho.idx hx]
  | f + 1, i, n, hi, hl => by
    have hx := List.getElem?_eq_getElem hi
    by_cases hp : l[i].parent = ⟨#[]⟩
    · exact absurd (Lev.top hx hp) (hl 1)
    · obtain ⟨j, y, hy, e⟩ := hpar i _ hx hp
      rw [nmI_at hx, depthU_up (ho.idx hx) hx hp, ← e]
      have := nolev_depth ho hpar f j (n + 1) (List.getElem?_eq_some_iff.1 hy).1 (fun d h => hl (d + 1) (.down hx hy e.symm h))
      rwa [nmI_at hy] at this
/-- A row that is gone through: who is deleted, who comes next. -/
theorem inner_del (l : List W5) (d : Nat) : ∀ (row : List Nat) (del : List ByteArray) (nx ds : List Nat) (s : ByteArray), s ∈ (innerI l d row del nx ds).1 ↔ s ∈ del ∨ ∃ i ∈ row, nmI l i = s
  | [], del, nx, ds, s => by simp [innerI]
  | i :: r, del, nx, ds, s => by
    rw [innerI, inner_del l d r, List.mem_cons]
    constructor
    · rintro ((h | h) | ⟨j, hj, h⟩)
      · exact .inr ⟨i, List.mem_cons_self .., h.symm⟩
      · exact .inl h
      · exact .inr ⟨j, List.mem_cons_of_mem _ hj, h⟩
    · rintro (h | ⟨j, hj, h⟩)
      · exact .inl (.inr h)
      · rcases List.mem_cons.1 hj with rfl | hj
        · exact .inl (.inl h.symm)
        · exact .inr ⟨j, hj, h⟩
theorem inner_next (l : List W5) (d : Nat) (j : Nat) : ∀ (row : List Nat) (del : List ByteArray) (nx ds : List Nat), j ∈ (innerI l d row del nx ds).2.1 ↔ j ∈ nx ∨ ∃ i ∈ row, nmI l i ∉ del ∧ j ∈ kidsI l (nmI l i) l.length
  | [], del, nx, ds => by simp [innerI]
  | i :: r, del, nx, ds => by
    rw [innerI, inner_next l d j r, List.mem_append]
    have hleft : j ∈ leftI l del (nmI l i) ↔ nmI l i ∉ del ∧ j ∈ kidsI l (nmI l i) l.length := by
      unfold leftI
      by_cases h : nmI l i ∈ del <;> simp [h]
    rw [hleft]
    constructor
    · rintro ((h | h) | ⟨k, hk, h1, h2⟩)
      · exact .inl h
      · exact .inr ⟨i, List.mem_cons_self .., h⟩
      · exact .inr ⟨k, List.mem_cons_of_mem _ hk, fun h => h1 (List.mem_cons_of_mem _ h), h2⟩
    · rintro (h | ⟨k, hk, h1, h2⟩)
      · exact .inl (.inl h)
      · rcases List.mem_cons.1 hk with rfl | hk
        · exact .inl (.inr ⟨h1, h2⟩)
        · by_cases e : nmI l k = nmI l i
          · rw [e] at h1 h2; exact .inl (.inr ⟨h1, h2⟩)
          · exact .inr ⟨k, hk, fun h => by rcases List.mem_cons.1 h with h | h; exact e h; exact h1 h, h2⟩
theorem inner_ds (l : List W5) (d : Nat) (j : Nat) : ∀ (row : List Nat) (del : List ByteArray) (nx ds : List Nat), (∀ i ∈ row, i < ds.length) → (innerI l d row del nx ds).2.2[j]? = if j ∈ row then some d else ds[j]?
  | [], del, nx, ds, _ => by simp [innerI]
  | i :: r, del, nx, ds, h => by
    rw [innerI, inner_ds l d j r _ _ _ (fun k hk => by rw [List.length_set]; exact h k (List.mem_cons_of_mem _ hk))]
    by_cases h1 : j ∈ r
    · rw [if_pos h1, if_pos (List.mem_cons_of_mem _ h1)]
    · rw [if_neg h1]
      by_cases h2 : j = i
      · subst h2
        rw [if_pos (List.mem_cons_self ..), List.getElem?_set_self (h j (List.mem_cons_self ..))]
      · rw [if_neg (by simp [h1, h2]), List.getElem?_set_ne (fun e => h2 e.symm)]
/-- Where the going down stands: all rows ahead of depth d are done. -/
structure Lvl (l : List W5) (row : List Nat) (del : List ByteArray) (ds : List Nat) (d : Nat) : Prop where
  row : ∀ i, i ∈ row ↔ Lev l i d
  del : ∀ s, s ∈ del ↔ s = ⟨#[]⟩ ∨ ∃ j k, k < d ∧ Lev l j k ∧ nmI l j = s
  len : ds.length = l.length
  done : ∀ i k, k < d → Lev l i k → ds[i]? = some k
  not : ∀ i, i < l.length → (∀ k, k < d → ¬ Lev l i k) → ds[i]? = some 0
theorem Lvl.next {l : List W5} (ho : OwnN l) {row : List Nat} {del : List ByteArray} {ds : List Nat} {d : Nat} (hd : 0 < d) (h : Lvl l row del ds d) : Lvl l (innerI l d row del [] ds).2.1 (innerI l d row del [] ds).1 (innerI l d row del [] ds).2.2 (d + 1) := by
  have hlt : ∀ i ∈ row, i < ds.length := fun i hi => by rw [h.len]; exact ((h.row i).1 hi).lt
  refine ⟨fun i => ?_, fun s => ?_, ?_, fun i k hk hl => ?_, fun i hi hn => ?_⟩
  · rw [inner_next]
    constructor
    · rintro (h1 | ⟨j, hj, h1, h2⟩)
      · cases h1
      · obtain ⟨_, x, hx, hp⟩ := kidsI_mem.1 h2
        have hjl := (h.row j).1 hj
        have hy := List.getElem?_eq_getElem hjl.lt
        exact .down hx hy (by rw [hp, nmI_at hy]) hjl
    · intro hl
      cases hl with
      | top => exact absurd hd (by omega)
      | @down _ j _ x y hx hy hp hl =>
        right
        refine ⟨j, (h.row j).2 hl, fun hdel => ?_, kidsI_mem.2 ⟨(List.getElem?_eq_some_iff.1 hx).1, x, hx, by rw [hp, nmI_at hy]⟩⟩
        rcases (h.del _).1 hdel with e | ⟨j2, k2, hk2, hl2, e⟩
        · rw [nmI_at hy] at e; exact ho.ne _ _ hy e
        · have hy2 := List.getElem?_eq_getElem hl2.lt
          rw [nmI_at hy, nmI_at hy2] at e
          have := ho.inj _ _ _ _ hy2 hy e
          subst this
          have := Lev.one ho hl2 _ hl
          omega
  · rw [inner_del, h.del]
    constructor
    · rintro ((h1 | ⟨j, k, hk, hl, e⟩) | ⟨i, hi, e⟩)
      · exact .inl h1
      · exact .inr ⟨j, k, by omega, hl, e⟩
      · exact .inr ⟨i, d, by omega, (h.row i).1 hi, e⟩
    · rintro (h1 | ⟨j, k, hk, hl, e⟩)
      · exact .inl (.inl h1)
      · by_cases hkd : k = d
        · subst hkd; exact .inr ⟨j, (h.row j).2 hl, e⟩
        · exact .inl (.inr ⟨j, k, by omega, hl, e⟩)
  · rw [inner_len]; exact h.len
  · rw [inner_ds l d i row del [] ds hlt]
    by_cases hkd : k = d
    · subst hkd; rw [if_pos ((h.row i).2 hl)]
    · rw [if_neg (fun hr => by have := Lev.one ho hl _ ((h.row i).1 hr); omega)]
      exact h.done i k (by omega) hl
  · rw [inner_ds l d i row del [] ds hlt, if_neg (fun hr => hn d (by omega) ((h.row i).1 hr))]
    exact h.not i hi fun k hk => hn k (by omega)
theorem outer_lev {l : List W5} (ho : OwnN l) : ∀ (f : Nat) (row : List Nat) (del : List ByteArray) (ds : List Nat) (d : Nat), 0 < d → Lvl l row del ds d → potI l del + row.length ≤ f → f + d = l.length + 1 →
    (∀ i k, Lev l i k → k ≤ l.length ∧ (outerI l f row del ds d)[i]? = some k) ∧ ∀ i, i < l.length → (∀ k, ¬ Lev l i k) → (outerI l f row del ds d)[i]? = some 0 := by
  intro f
  induction f with
  | zero =>
    intro row del ds d hd h hp hf
    have hr : row = [] := List.eq_nil_of_length_eq_zero (by omega)
    subst hr
    have hno : ∀ i k, d ≤ k → ¬ Lev l i k := fun i k hk hl => by
      obtain ⟨j, hj⟩ := hl.above d hd hk
      have := (h.row j).2 hj
      cases this
    refine ⟨fun i k hl => ?_, fun i hi hn => ?_⟩
    · by_cases hk : d ≤ k
      · exact absurd hl (hno i k hk)
      · exact ⟨by omega, h.done i k (by omega) hl⟩
    · exact h.not i hi fun k _ => hn k
  | succ f ih =>
    intro row del ds d hd h hp hf
    by_cases hr : row = []
    · subst hr
      rw [outer_nil]
      have hno : ∀ i k, d ≤ k → ¬ Lev l i k := fun i k hk hl => by
        obtain ⟨j, hj⟩ := hl.above d hd hk
        have := (h.row j).2 hj
        cases this
      refine ⟨fun i k hl => ?_, fun i hi hn => ?_⟩
      · by_cases hk : d ≤ k
        · exact absurd hl (hno i k hk)
        · exact ⟨by omega, h.done i k (by omega) hl⟩
      · exact h.not i hi fun k _ => hn k
    · rw [outer_more hr]
      have hpos : 0 < row.length := List.length_pos_iff.2 hr
      have hpot := inner_pot l d row del [] ds
      simp only [List.length_nil, Nat.add_zero] at hpot
      exact ih _ _ _ (d + 1) (by omega) (h.next ho hd) (by omega) (by omega)
theorem deep_lev {l : List W5} (ho : OwnN l) : (∀ i k, Lev l i k → k ≤ l.length ∧ (deepI l)[i]? = some k) ∧ ∀ i, i < l.length → (∀ k, ¬ Lev l i k) → (deepI l)[i]? = some 0 := by
  refine outer_lev ho _ _ _ _ 1 (by omega) ⟨fun i => ?_, fun s => ?_, by rw [List.length_replicate], fun i k hk hl => ?_, fun i hi hn => ?_⟩ ?_ rfl
  · rw [kidsI_mem]
    constructor
    · rintro ⟨_, x, hx, hp⟩; exact .top hx hp
    · intro hl
      cases hl with
      | top hx hp => exact ⟨(List.getElem?_eq_some_iff.1 hx).1, _, hx, hp⟩
      | down _ _ _ h => exact absurd h.pos (by omega)
  · simp only [List.mem_cons, List.not_mem_nil, or_false]
    constructor
    · exact .inl
    · rintro (h | ⟨j, k, hk, hl, _⟩)
      · exact h
      · have := hl.pos; omega
  · have := hl.pos; omega
  · rw [List.getElem?_replicate, if_pos hi]
  · have h1 := pot_del l [] ⟨#[]⟩
    have h2 := pot_start l
    unfold leftI at h1
    rw [if_neg (by simp)] at h1
    omega
/-- So deep each stands as the document's Depth says; 0: it is not below the root. -/
theorem deep_at {l : List W5} (ho : OwnN l) (hpar : ∀ (i : Nat) (x : W5), l[i]? = some x → x.parent ≠ ⟨#[]⟩ → ∃ (j : Nat) (y : W5), l[j]? = some y ∧ y.name = x.parent) {i : Nat} {x : W5} (hx : l[i]? = some x) :
    ∃ k : Nat, (deepI l)[i]? = some k ∧ (0 < k → depthL l x.name = k) ∧ (k = 0 → depthL l x.name = -1) := by
  obtain ⟨h1, h2⟩ := deep_lev ho
  by_cases hl : ∃ k, Lev l i k
  · obtain ⟨k, hl⟩ := hl
    obtain ⟨h3, h4⟩ := h1 i k hl
    refine ⟨k, h4, fun _ => ?_, fun e => by have := hl.pos; omega⟩
    have := lev_depth ho hl l.length 0 h3
    rw [nmI_at hx] at this
    unfold depthL
    rw [this]; omega
  · have hn : ∀ k, ¬ Lev l i k := fun k h => hl ⟨k, h⟩
    have hi := (List.getElem?_eq_some_iff.1 hx).1
    refine ⟨0, h2 i hi hn, fun h => by omega, fun _ => ?_⟩
    have := nolev_depth ho hpar l.length i 0 hi hn
    rw [nmI_at hx] at this
    exact this
end Go.Proofs.Ytmiadhcmhnjmfaa
