/- The law's trees by numbers: what Check says of them. -/
import Derived.Test.YtmiadhcmhnjmfaaWnK
import Derived.Test.YtmiadhcmhnjmfaaWnF
namespace Go.Proofs.Ytmiadhcmhnjmfaa
open Go.RowKit
set_option linter.unusedVariables false
set_option linter.unusedSimpArgs false
theorem seven : ∀ i k : Fin 24, i.1 * 7 % 24 = k.1 * 7 % 24 → i = k := by decide
theorem nmM_inj {i k : Nat} (hi : i < 24) (hk : k < 24) (h : nmM i = nmM k) : i = k := by
  unfold nmM at h
  simp only [ByteArray.mk.injEq, Array.mk.injEq, List.cons.injEq, and_true] at h
  have h2 := congrArg UInt8.toNat h
  rw [UInt8.toNat_ofNat', UInt8.toNat_ofNat'] at h2
  have h3 := seven ⟨i, hi⟩ ⟨k, hk⟩ (show i * 7 % 24 = k * 7 % 24 by omega)
  exact congrArg Fin.val h3
theorem nmM_ne (i : Nat) : nmM i ≠ ⟨#[]⟩ := by
  unfold nmM
  intro h
  simp at h
theorem nmM_ok (i : Nat) : nameB (nmM i) = true := by
  unfold nameB
  have h := nmM_ne i
  have h2 : (nmM i).size = 1 := rfl
  simp [h, h2]
/-- What each node is. -/
structure GoodM (l : List W5) : Prop where
  name : ∀ (i : Nat) (x : W5), l[i]? = some x → x.name = nmM i
  par : ∀ (i : Nat) (x : W5), l[i]? = some x → x.parent = ⟨#[]⟩ ∨ ∃ p, p < i ∧ x.parent = nmM p
  lim : ∀ (i : Nat) (x : W5), l[i]? = some x → ∃ z t : Int, x.lim = ⟨z, z, z - t⟩ ∧ (0 ≤ z ∧ z ≤ 8193) ∧ 0 ≤ t ∧ t ≤ z / 3
theorem pM_lt {ns : List Int} {j : Nat} (h : 0 < j) : pM ns j < j := by
  unfold pM
  have h0 : 0 ≤ nAt ns (2 * j) / 3 % (j : Int) := Int.emod_nonneg _ (by omega)
  have h1 : nAt ns (2 * j) / 3 % (j : Int) < j := Int.emod_lt_of_pos _ (by omega)
  omega
theorem third_ok {z b : Int} (hz : 0 ≤ z) (hb : b = 0 ∨ b = 1) : 0 ≤ z / 3 * b ∧ z / 3 * b ≤ z / 3 := by
  rcases hb with rfl | rfl <;> omega
theorem app_at {α : Type} {l : List α} {y x : α} {i : Nat} (h : (l ++ [y])[i]? = some x) : l[i]? = some x ∨ (i = l.length ∧ x = y) := by
  rw [List.getElem?_append] at h
  split at h
  · exact .inl h
  · rename_i h1
    have h2 : i = l.length := by
      have := (List.getElem?_eq_some_iff.1 h).1
      simp at this; omega
    subst h2
    simp at h
    exact .inr ⟨rfl, h.symm⟩
theorem makeM_good (ns : List Int) (clash : Bool) : ∀ j, GoodM (makeM ns clash j).1
  | 0 => ⟨fun i x h => by simp [makeM] at h, fun i x h => by simp [makeM] at h, fun i x h => by simp [makeM] at h⟩
  | j + 1 => by
    have ih := makeM_good ns clash j
    have hlen := (makeM_len ns clash j).1
    have hl := lim_ok (ns := ns) (clash := clash) (j := j) (makeM_left ns clash j)
    refine ⟨fun i x h => ?_, fun i x h => ?_, fun i x h => ?_⟩
    · rcases app_at h with h | ⟨h1, rfl⟩
      · exact ih.name i x h
      · rw [h1, hlen]; rfl
    · rcases app_at h with h | ⟨h1, rfl⟩
      · exact ih.par i x h
      · rw [h1, hlen]
        show parM ns j _ = _ ∨ ∃ p, p < j ∧ parM ns j _ = _
        unfold parM
        by_cases hh : hasM ns j
        · right
          rw [if_pos hh]
          have hp := pM_lt (ns := ns) hh.1
          have hp2 : pM ns j < (makeM ns clash j).1.length := by omega
          exact ⟨pM ns j, hp, ih.name _ _ (by rw [List.getElem?_eq_getElem hp2]; rfl)⟩
        · left
          rw [if_neg hh]
    · rcases app_at h with h | ⟨h1, rfl⟩
      · exact ih.lim i x h
      · exact ⟨_, _, rfl, hl, third_ok hl.1 (by omega)⟩
theorem good_idx {l : List W5} (h : GoodM l) (hl : l.length ≤ 24) {i : Nat} (hi : i < l.length) : wIdx l (nmM i) = some i :=
  wIdx_some (List.getElem?_eq_getElem hi) (h.name i _ (List.getElem?_eq_getElem hi)) (fun j y hj hy e => by
    have h1 := h.name j y hy
    rw [h1] at e
    have := nmM_inj (by omega) (by omega) e
    omega)
theorem good_c1 {l : List W5} (h : GoodM l) (hl : l.length ≤ 24) : scanE (c1W l) 0 l = 0 :=
  scanE_none _ _ _ fun i x hx => by
    have hi := (List.getElem?_eq_some_iff.1 hx).1
    have hn := h.name i x hx
    obtain ⟨z, t, e, hz, ht⟩ := h.lim i x hx
    have hnone : wIdx (l.take i) x.name = none := wIdx_none fun j y hj hy e => by
      rw [List.length_take] at hj
      rw [List.getElem?_take] at hy
      split at hy
      · have h1 := h.name j y hy
        rw [h1, hn] at e
        have := nmM_inj (by omega) (by omega) e
        omega
      · cases hy
    have hm : mayV x.lim = true := by
      rw [e]
      unfold mayV leV z3 mostV
      simp only [Bool.and_eq_true, decide_eq_true_eq]
      refine ⟨⟨⟨?_, ?_⟩, ?_⟩, ⟨?_, ?_⟩, ?_⟩ <;> omega
    unfold c1W
    rw [Nat.zero_add, hnone, hm, hn, nmM_ok]
    rfl
theorem good_c2 {l : List W5} (h : GoodM l) (hl : l.length ≤ 24) : scanE (c2W l) 0 l = 0 :=
  scanE_none _ _ _ fun i x hx => by
    have hi := (List.getElem?_eq_some_iff.1 hx).1
    unfold c2W
    rw [if_neg]
    rintro ⟨h1, h2⟩
    rcases h.par i x hx with hp | ⟨p, hp, e⟩
    · exact h1 hp
    · rw [e, good_idx h hl (by omega)] at h2
      cases h2
theorem good_deep {l : List W5} (h : GoodM l) (hl : l.length ≤ 24) : ∀ (i f : Nat) (n : Int), i < l.length → i < f → n + 1 ≤ depthU l f (nmM i) n := by
  intro i
  induction i using Nat.strongRecOn with
  | ind i ih =>
    intro f n hi hf
    obtain ⟨f, rfl⟩ : ∃ f', f = f' + 1 := ⟨f - 1, by omega⟩
    have hx := List.getElem?_eq_getElem hi
    rcases h.par i _ hx with hp | ⟨p, hp, e⟩
    · rw [depthU_end (good_idx h hl hi) hx hp]; exact Int.le_refl _
    · rw [depthU_up (good_idx h hl hi) hx (by rw [e]; exact nmM_ne p), e]
      have := ih p hp f (n + 1) (by omega) (by omega)
      omega
theorem good_c3 {l : List W5} (h : GoodM l) (hl : l.length ≤ 24) : scanE (c3W l) 0 l = 0 :=
  scanE_none _ _ _ fun i x hx => by
    have hi := (List.getElem?_eq_some_iff.1 hx).1
    unfold c3W
    rw [if_neg]
    rw [h.name i x hx]
    have := good_deep h hl i l.length 0 hi hi
    unfold depthL
    omega
/-- Check says at most that children are promised too much. -/
theorem good_check {l : List W5} (h : GoodM l) (hl : l.length ≤ 24) : checkL l = scanE (c4W l) 0 l := by
  unfold checkL
  rw [good_c1 h hl, good_c2 h hl, good_c3 h hl]
  rw [if_neg (by omega), if_neg (by simp), if_neg (by simp), if_neg (by simp)]
theorem scan_two (f : Nat → W5 → Int) (v : Int) (hf : ∀ i x, f i x = 0 ∨ f i x = v) : ∀ (l : List W5) (i : Nat), scanE f i l = 0 ∨ scanE f i l = v
  | [], i => .inl rfl
  | x :: l, i => by
    unfold scanE
    split
    · exact hf i x
    · exact scan_two f v hf l (i + 1)
theorem good_fit {l : List W5} (h : GoodM l) (hl : l.length ≤ 24) : FitW l := by
  unfold FitW
  rw [good_check h hl]
  exact scan_two _ 11 (fun i x => by unfold c4W; split <;> simp) _ _
theorem kids_app (l : List W5) (x : W5) (s : ByteArray) : kidsV (l ++ [x]) s = if x.parent = s then addV (kidsV l s) x.lim else kidsV l s := by
  unfold kidsV
  rw [List.filter_append, List.foldl_append]
  by_cases h : x.parent = s
  · simp [h]
  · simp [h]
theorem kids_none {l : List W5} {s : ByteArray} (h : ∀ (i : Nat) (x : W5), l[i]? = some x → x.parent ≠ s) : kidsV l s = z3 := by
  unfold kidsV
  rw [List.filter_eq_nil_iff.2]
  · rfl
  · intro y hy
    obtain ⟨i, hi, rfl⟩ := List.mem_iff_getElem.1 hy
    simpa using h i _ (List.getElem?_eq_getElem hi)
/-- What the children have of it and what is left to it. -/
def KInv (l : List W5) (left : List Int) : Prop := ∀ (p : Nat) (x : W5), l[p]? = some x → (kidsV l (nmM p)).c + left.getD p 0 = x.lim.c - x.lim.c / 3 ∧ (kidsV l (nmM p)).m = (kidsV l (nmM p)).c ∧ (kidsV l (nmM p)).p ≤ (kidsV l (nmM p)).c
theorem getD_app {left : List Int} {y : Int} {p : Nat} (h : p < left.length) : (left ++ [y]).getD p 0 = left.getD p 0 := by
  rw [List.getD_eq_getElem?_getD, List.getD_eq_getElem?_getD, List.getElem?_append_left h]
theorem makeM_kids (ns : List Int) : ∀ j, j ≤ 24 → KInv (makeM ns false j).1 (makeM ns false j).2
  | 0, _ => fun p x h => by simp [makeM] at h
  | j + 1, hj24 => by
    have ih := makeM_kids ns j (by omega)
    have hg := makeM_good ns false j
    obtain ⟨hl1, hl2⟩ := makeM_len ns false j
    have hleft := makeM_left ns false j
    have hz := lim0_ok (ns := ns) (j := j) hleft
    have hlim : limM ns false j (makeM ns false j).2 = lim0M ns j (makeM ns false j).2 := by unfold limM; rw [if_neg (by simp)]
    have hll : (leftM ns j (makeM ns false j).2).length = j := by unfold leftM; split <;> simp [hl2]
    intro p x hx
    show (kidsV ((makeM ns false j).1 ++ [elM ns false j (makeM ns false j).1 (makeM ns false j).2]) (nmM p)).c + (leftM ns j (makeM ns false j).2 ++ [limM ns false j (makeM ns false j).2 - limM ns false j (makeM ns false j).2 / 3]).getD p 0 = _ ∧ (kidsV ((makeM ns false j).1 ++ [elM ns false j (makeM ns false j).1 (makeM ns false j).2]) (nmM p)).m = (kidsV ((makeM ns false j).1 ++ [elM ns false j (makeM ns false j).1 (makeM ns false j).2]) (nmM p)).c ∧ (kidsV ((makeM ns false j).1 ++ [elM ns false j (makeM ns false j).1 (makeM ns false j).2]) (nmM p)).p ≤ (kidsV ((makeM ns false j).1 ++ [elM ns false j (makeM ns false j).1 (makeM ns false j).2]) (nmM p)).c
    rw [kids_app]
    have hpar : (elM ns false j (makeM ns false j).1 (makeM ns false j).2).parent = parM ns j (makeM ns false j).1 := rfl
    have hel : (elM ns false j (makeM ns false j).1 (makeM ns false j).2).lim = ⟨lim0M ns j (makeM ns false j).2, lim0M ns j (makeM ns false j).2, lim0M ns j (makeM ns false j).2 - lim0M ns j (makeM ns false j).2 / 3 * (nAt ns (2 * j + 1) % 2)⟩ := by
      unfold elM; rw [hlim]
    have ht := third_ok (b := nAt ns (2 * j + 1) % 2) hz.1 (by omega)
    have hq : hasM ns j → parM ns j (makeM ns false j).1 = nmM (pM ns j) ∧ pM ns j < j := fun hh => by
      have hp := pM_lt (ns := ns) hh.1
      have hp2 : pM ns j < (makeM ns false j).1.length := by omega
      exact ⟨by unfold parM; rw [if_pos hh]; exact hg.name _ _ (by rw [List.getElem?_eq_getElem hp2]; rfl), hp⟩
    have hno : ¬ hasM ns j → parM ns j (makeM ns false j).1 = ⟨#[]⟩ := fun hh => by unfold parM; rw [if_neg hh]
    rcases app_at hx with hx | ⟨h1, rfl⟩
    · have hp : p < j := by have := (List.getElem?_eq_some_iff.1 hx).1; omega
      obtain ⟨i1, i2, i3⟩ := ih p x hx
      rw [getD_app (by omega), hpar, hel]
      by_cases hh : hasM ns j
      · obtain ⟨e, hlt⟩ := hq hh
        rw [e]
        by_cases hpq : pM ns j = p
        · subst hpq
          have hL : (leftM ns j (makeM ns false j).2).getD (pM ns j) 0 = (makeM ns false j).2.getD (pM ns j) 0 - (makeM ns false j).2.getD (pM ns j) 0 / 2 := by
            unfold leftM
            rw [if_pos hh, List.getD_eq_getElem?_getD, List.getElem?_set_self (by omega)]
            rfl
          have hZ : lim0M ns j (makeM ns false j).2 = (makeM ns false j).2.getD (pM ns j) 0 / 2 := by unfold lim0M; rw [if_pos hh]
          rw [if_pos rfl, hL]
          rw [hZ] at ht ⊢
          unfold addV
          dsimp only
          refine ⟨?_, ?_, ?_⟩ <;> omega
        · have hL : (leftM ns j (makeM ns false j).2).getD p 0 = (makeM ns false j).2.getD p 0 := by
            unfold leftM
            rw [if_pos hh, List.getD_eq_getElem?_getD, List.getD_eq_getElem?_getD, List.getElem?_set_ne hpq]
            simp
          rw [if_neg (fun e => hpq (nmM_inj (by omega) (by omega) e)), hL]
          exact ⟨i1, i2, i3⟩
      · have hL : (leftM ns j (makeM ns false j).2).getD p 0 = (makeM ns false j).2.getD p 0 := by unfold leftM; rw [if_neg hh]
        rw [hno hh, if_neg (fun e => nmM_ne p e.symm), hL]
        exact ⟨i1, i2, i3⟩
    · have hp : p = j := by omega
      subst hp
      have hk : kidsV (makeM ns false p).1 (nmM p) = z3 := kids_none fun i y hy e => by
        have hi : i < p := by have := (List.getElem?_eq_some_iff.1 hy).1; omega
        rcases hg.par i y hy with h | ⟨q, hq, h⟩
        · rw [h] at e; exact nmM_ne p e.symm
        · rw [h] at e
          have := nmM_inj (by omega) (by omega) e
          omega
      have hnp : parM ns p (makeM ns false p).1 ≠ nmM p := fun e => by
        by_cases hh : hasM ns p
        · obtain ⟨e2, hlt⟩ := hq hh
          rw [e2] at e
          have := nmM_inj (by omega) (by omega) e
          omega
        · rw [hno hh] at e; exact nmM_ne p e.symm
      rw [hpar, if_neg hnp, hk, hel, hlim]
      have hL : (leftM ns p (makeM ns false p).2 ++ [lim0M ns p (makeM ns false p).2 - lim0M ns p (makeM ns false p).2 / 3]).getD p 0 = lim0M ns p (makeM ns false p).2 - lim0M ns p (makeM ns false p).2 / 3 := by
        rw [List.getD_eq_getElem?_getD, List.getElem?_append_right (by omega), hll]
        simp
      rw [hL]
      unfold z3
      dsimp only
      exact ⟨by omega, rfl, Int.le_refl _⟩
/-- Without clash Check says nothing. -/
theorem make_check (ns : List Int) {j : Nat} (hj : j ≤ 24) : checkL (makeM ns false j).1 = 0 := by
  have hg := makeM_good ns false j
  have hlen := (makeM_len ns false j).1
  rw [good_check hg (by omega)]
  refine scanE_none _ _ _ fun i x hx => ?_
  obtain ⟨k1, k2, k3⟩ := makeM_kids ns j hj i x hx
  have hl := left_at (makeM_left ns false j) i
  obtain ⟨z, t, e, hz, ht⟩ := hg.lim i x hx
  unfold c4W
  rw [if_neg]
  rw [hg.name i x hx, e]
  rw [e] at k1
  unfold leV
  simp only [Bool.and_eq_false_iff, decide_eq_false_iff_not]
  dsimp only at k1
  omega
theorem make_fit (ns : List Int) (clash : Bool) {j : Nat} (hj : j ≤ 24) : FitW (makeM ns clash j).1 := good_fit (makeM_good ns clash j) (by rw [(makeM_len ns clash j).1]; exact hj)
theorem make_size (ns : List Int) (clash : Bool) (j : Nat) : ∀ u ∈ (makeM ns clash j).1, u.name.size ≤ 1000000 ∧ u.parent.size ≤ 1000000 := by
  intro u hu
  obtain ⟨i, hi, rfl⟩ := List.mem_iff_getElem.1 hu
  have hg := makeM_good ns clash j
  have hx := List.getElem?_eq_getElem hi
  rw [hg.name i _ hx]
  have h1 : ∀ k, (nmM k).size = 1 := fun _ => rfl
  refine ⟨by rw [h1]; omega, ?_⟩
  rcases hg.par i _ hx with h | ⟨p, _, h⟩
  · rw [h]; decide
  · rw [h, h1]; omega
end Go.Proofs.Ytmiadhcmhnjmfaa
