/- Top of the law's trees: in order, each once, behind its parent. -/
import Derived.Test.YtmiadhcmhnjmfaaWnL
namespace Go.Proofs.Ytmiadhcmhnjmfaa
open Go.RowKit
set_option linter.unusedVariables false
set_option linter.unusedSimpArgs false
/-- A name's first byte. -/
def fstB (s : ByteArray) : Int := match s.data.toList with | a :: _ => (a.toNat : Int) | [] => 0
theorem ltS_one (a b : UInt8) : ltS ⟨#[a]⟩ ⟨#[b]⟩ = decide ((a.toNat : Int) < (b.toNat : Int)) := by
  unfold ltS
  rw [Lib.toList_data, Lib.toList_data]
  simp only [Op.bytesLess, Bool.and_false, Bool.or_false]
  by_cases h : a < b
  · have h2 : a.toNat < b.toNat := UInt8.lt_iff_toNat_lt.1 h
    simp [h, h2]
  · have h2 : ¬ a.toNat < b.toNat := fun h3 => h (UInt8.lt_iff_toNat_lt.2 h3)
    simp [h, h2]
theorem fst_nm (i : Nat) : fstB (nmM i) = (((97 + i * 7 % 24 : Nat) : Nat) : Int) := by
  unfold fstB nmM
  show (((UInt8.ofNat (97 + i * 7 % 24)).toNat : Nat) : Int) = _
  rw [UInt8.toNat_ofNat']
  congr 1
  omega
theorem lt_nm (i k : Nat) : ltS (nmM i) (nmM k) = decide (fstB (nmM i) < fstB (nmM k)) := ltS_one _ _
theorem fst_up (i : Nat) : 97 ≤ fstB (nmM i) ∧ fstB (nmM i) < 256 := by rw [fst_nm]; omega
theorem fst_inj {i k : Nat} (hi : i < 24) (hk : k < 24) (h : fstB (nmM i) = fstB (nmM k)) : i = k := by
  rw [fst_nm, fst_nm] at h
  have h3 := seven ⟨i, hi⟩ ⟨k, hk⟩ (show i * 7 % 24 = k * 7 % 24 by omega)
  exact congrArg Fin.val h3
/-- Where it stands, as one number. -/
def keyT (l : List W5) (x : W5) : Int := depthL l x.name * 256 + fstB x.name
theorem bef_key {l : List W5} (h : GoodM l) {x y : W5} (hx : x ∈ l) (hy : y ∈ l) : befW l x y = decide (keyT l y < keyT l x) := by
  obtain ⟨i, hi, rfl⟩ := List.mem_iff_getElem.1 hx
  obtain ⟨k, hk, rfl⟩ := List.mem_iff_getElem.1 hy
  have e1 := h.name i _ (List.getElem?_eq_getElem hi)
  have e2 := h.name k _ (List.getElem?_eq_getElem hk)
  unfold befW keyT
  rw [e1, e2, lt_nm]
  have h1 := fst_up i
  have h2 := fst_up k
  generalize depthL l (nmM i) = d
  generalize depthL l (nmM k) = d'
  generalize fstB (nmM i) = f at *
  generalize fstB (nmM k) = f' at *
  by_cases a : d' < d
  · have : d' * 256 + f' < d * 256 + f := by omega
    simp [a, this]
  · by_cases b : d' = d
    · subst b
      by_cases c : f' < f
      · have : d' * 256 + f' < d' * 256 + f := by omega
        simp [c, this]
      · have : ¬ d' * 256 + f' < d' * 256 + f := by omega
        simp [c, this]
    · have : ¬ d' * 256 + f' < d * 256 + f := by omega
      simp [a, b, this]
theorem ins_cons (l out : List W5) (a x : W5) : insW l (a :: out) x = if befW l x a = true then a :: insW l out x else x :: a :: out := by
  unfold insW
  by_cases h : befW l x a = true
  · simp [h]
  · simp [h]
theorem ins_mem (l : List W5) (x : W5) : ∀ (out : List W5) (y : W5), y ∈ insW l out x ↔ y = x ∨ y ∈ out
  | [], y => by simp [insW]
  | a :: out, y => by
    rw [ins_cons]
    split
    · rw [List.mem_cons, ins_mem l x out y, List.mem_cons]
      constructor
      · rintro (h | h | h)
        · exact .inr (.inl h)
        · exact .inl h
        · exact .inr (.inr h)
      · rintro (h | h | h)
        · exact .inr (.inl h)
        · exact .inl h
        · exact .inr (.inr h)
    · rw [List.mem_cons]
theorem ins_sorted (l : List W5) (f : W5 → Int) (x : W5) : ∀ (out : List W5), (∀ y ∈ out, befW l x y = decide (f y < f x)) → (∀ y ∈ out, f y ≠ f x) → out.Pairwise (fun a b => f a < f b) → (insW l out x).Pairwise (fun a b => f a < f b)
  | [], _, _, _ => by simp [insW]
  | a :: out, hb, hn, hp => by
    rw [ins_cons]
    obtain ⟨p1, p2⟩ := List.pairwise_cons.1 hp
    have ha := hb a (List.mem_cons_self ..)
    have hna := hn a (List.mem_cons_self ..)
    split
    · rename_i h
      rw [ha] at h
      have h2 : f a < f x := by simpa using h
      refine List.pairwise_cons.2 ⟨fun b hbm => ?_, ins_sorted l f x out (fun y hy => hb y (List.mem_cons_of_mem _ hy)) (fun y hy => hn y (List.mem_cons_of_mem _ hy)) p2⟩
      rcases (ins_mem l x out b).1 hbm with rfl | hbm
      · exact h2
      · exact p1 b hbm
    · rename_i h
      rw [ha] at h
      have h2 : ¬ f a < f x := by simpa using h
      refine List.pairwise_cons.2 ⟨fun b hbm => ?_, hp⟩
      rcases List.mem_cons.1 hbm with rfl | hbm
      · omega
      · have := p1 b hbm
        omega
/-- Top: the same nodes, in order. -/
theorem top_to {l : List W5} (h : GoodM l) (hl : l.length ≤ 24) : ∀ i, i ≤ l.length → (∀ y, y ∈ topTo l i ↔ y ∈ l.take i) ∧ (topTo l i).Pairwise (fun a b => keyT l a < keyT l b)
  | 0, _ => ⟨fun y => by simp [topTo], by simp [topTo]⟩
  | i + 1, hi => by
    obtain ⟨ih1, ih2⟩ := top_to h hl i (by omega)
    have hx := List.getElem?_eq_getElem (by omega : i < l.length)
    have hxm := List.getElem_mem (by omega : i < l.length)
    have hi' : i < l.length := hi
    rw [topTo_step hx]
    refine ⟨fun y => ?_, ins_sorted l _ _ _ (fun y hy => bef_key h hxm (List.mem_of_mem_take ((ih1 y).1 hy))) (fun y hy e => ?_) ih2⟩
    · rw [ins_mem, ih1, List.take_add_one, hx]
      simp only [Option.toList_some, List.mem_append, List.mem_cons, List.not_mem_nil, or_false]
      exact Or.comm
    · have hy2 := (ih1 y).1 hy
      obtain ⟨k, hk, rfl⟩ := List.mem_iff_getElem.1 hy2
      rw [List.length_take] at hk
      have e1 := h.name i _ hx
      have hk2 : k < l.length := by omega
      rw [List.getElem_take] at e
      have e2 := h.name k _ (List.getElem?_eq_getElem hk2)
      unfold keyT at e
      rw [e1, e2] at e
      have h1 := fst_up i
      have h2 := fst_up k
      have h3 : fstB (nmM i) = fstB (nmM k) := by omega
      have := fst_inj (by omega) (by omega) h3
      omega
theorem top_mem {l : List W5} (h : GoodM l) (hl : l.length ≤ 24) (y : W5) : y ∈ topL l ↔ y ∈ l := by
  have := (top_to h hl l.length (Nat.le_refl _)).1 y
  rwa [topTo_all, List.take_length] at this
theorem top_up {l : List W5} (h : GoodM l) (hl : l.length ≤ 24) : (topL l).Pairwise (fun a b => keyT l a < keyT l b) := by
  have := (top_to h hl l.length (Nat.le_refl _)).2
  rwa [topTo_all] at this
theorem top_len (l : List W5) : (topL l).length = l.length := by rw [← topTo_all, topTo_len _ _ (Nat.le_refl _)]
theorem deep_fuel {l : List W5} (h : GoodM l) (hl : l.length ≤ 24) : ∀ (i f f' : Nat) (n : Int), i < l.length → i < f → i < f' → depthU l f (nmM i) n = depthU l f' (nmM i) 0 + n := by
  intro i
  induction i using Nat.strongRecOn with
  | ind i ih =>
    intro f f' n hi hf hf'
    obtain ⟨f, rfl⟩ : ∃ g, f = g + 1 := ⟨f - 1, by omega⟩
    obtain ⟨f', rfl⟩ : ∃ g, f' = g + 1 := ⟨f' - 1, by omega⟩
    have hx := List.getElem?_eq_getElem hi
    rcases h.par i _ hx with hp | ⟨p, hp, e⟩
    · rw [depthU_end (good_idx h hl hi) hx hp, depthU_end (good_idx h hl hi) hx hp]; omega
    · rw [depthU_up (good_idx h hl hi) hx (by rw [e]; exact nmM_ne p), depthU_up (good_idx h hl hi) hx (by rw [e]; exact nmM_ne p), e]
      rw [ih p hp f f' (n + 1) (by omega) (by omega) (by omega), ih p hp f' f' (0 + 1) (by omega) (by omega) (by omega)]
      omega
theorem deep_up {l : List W5} (h : GoodM l) (hl : l.length ≤ 24) {i : Nat} {x : W5} (hx : l[i]? = some x) {p : Nat} (hp : p < i) (e : x.parent = nmM p) : depthL l (nmM i) = depthL l (nmM p) + 1 := by
  have hi := (List.getElem?_eq_some_iff.1 hx).1
  unfold depthL
  obtain ⟨f, hf⟩ : ∃ g, l.length = g + 1 := ⟨l.length - 1, by omega⟩
  rw [hf, depthU_up (good_idx h hl hi) hx (by rw [e]; exact nmM_ne p), e]
  rw [deep_fuel h hl p f (f + 1) (0 + 1) (by omega) (by omega) (by omega)]
  omega
/-- What the law asks of the node at place i of Top. -/
theorem top_at {l : List W5} (h : GoodM l) (hl : l.length ≤ 24) {i : Nat} {u : W5} (hu : (topL l)[i]? = some u) :
    (∃ k, k < l.length ∧ ∀ (j : Nat) (x : W5), l[j]? = some x → (x = u ↔ j = k)) ∧
    (u.parent = ⟨#[]⟩ ∨ ∃ (k : Nat) (y : W5), k < i ∧ (topL l)[k]? = some y ∧ y.name = u.parent) ∧
    (∀ (y : W5), 0 < i → (topL l)[i - 1]? = some y → depthL l y.name < depthL l u.name ∨ (depthL l y.name = depthL l u.name ∧ ltS y.name u.name = true)) := by
  have hs := top_up h hl
  have hum : u ∈ l := (top_mem h hl u).1 (List.mem_of_getElem? hu)
  obtain ⟨k, hk, hku⟩ := List.mem_iff_getElem.1 hum
  have hlk : l[k]? = some u := by rw [← hku]; exact List.getElem?_eq_getElem hk
  have hun := h.name k u hlk
  have hord : ∀ (a b : Nat) (x y : W5), (topL l)[a]? = some x → (topL l)[b]? = some y → keyT l x < keyT l y → a < b := fun a b x y hx hy hlt => by
    obtain ⟨ha, rfl⟩ := List.getElem?_eq_some_iff.1 hx
    obtain ⟨hb, rfl⟩ := List.getElem?_eq_some_iff.1 hy
    rcases Nat.lt_trichotomy a b with c | c | c
    · exact c
    · subst c; omega
    · have := List.pairwise_iff_getElem.1 hs b a hb ha c
      omega
  refine ⟨⟨k, hk, fun j x hx => ⟨fun e => ?_, fun e => ?_⟩⟩, ?_, fun y hi hy => ?_⟩
  · subst e
    have hj := (List.getElem?_eq_some_iff.1 hx).1
    have := h.name j x hx
    rw [hun] at this
    exact (nmM_inj (by omega) (by omega) this).symm
  · subst e
    rw [hlk] at hx
    exact (Option.some.inj hx).symm
  · rcases h.par k u hlk with hp | ⟨p, hp, e⟩
    · exact .inl hp
    · right
      have hpl : p < l.length := by omega
      have hxp := List.getElem?_eq_getElem hpl
      have hnp := h.name p _ hxp
      obtain ⟨t, ht, hte⟩ := List.mem_iff_getElem.1 ((top_mem h hl _).2 (List.getElem_mem hpl))
      have htx : (topL l)[t]? = some l[p] := by rw [← hte]; exact List.getElem?_eq_getElem ht
      refine ⟨t, _, hord t i _ u htx hu ?_, htx, by rw [hnp, e]⟩
      unfold keyT
      rw [hnp, hun, deep_up h hl hlk hp e]
      have h1 := fst_up p
      have h2 := fst_up k
      omega
  · obtain ⟨hi', rfl⟩ := List.getElem?_eq_some_iff.1 hu
    obtain ⟨hy', rfl⟩ := List.getElem?_eq_some_iff.1 hy
    have hlt := List.pairwise_iff_getElem.1 hs (i - 1) i hy' hi' (by omega)
    have hym : (topL l)[i - 1] ∈ l := (top_mem h hl _).1 (List.getElem_mem hy')
    have hb := bef_key h hum hym
    have hb2 : befW l (topL l)[i] (topL l)[i - 1] = true := by rw [hb]; simpa using hlt
    unfold befW at hb2
    simpa using hb2
end Go.Proofs.Ytmiadhcmhnjmfaa
