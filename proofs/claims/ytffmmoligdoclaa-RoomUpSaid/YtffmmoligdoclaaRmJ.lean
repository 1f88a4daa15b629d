/- Room: what fits, and no more (pure). -/
import Derived.Test.YtffmmoligdoclaaRmH
namespace Go.Proofs.Ytffmmoligdoclaa
open Go.RowKit
set_option linter.unusedVariables false
set_option linter.unusedSimpArgs false
def LimB (l : List I12) : Prop := ∀ x ∈ l, x.lim.c ≤ 275 ∧ x.lim.m ≤ 275 ∧ x.lim.p ≤ 275
theorem LimB.create {l : List I12} (h : LimB l) (s p : ByteArray) {a : Nat} (ha : a ≤ 255) : LimB (createL l s p (limM a)) := by
  intro x hx
  unfold createL at hx
  rcases mem_ins.1 hx with rfl | hx
  · show (20 + (a : Int)) ≤ 275 ∧ (20 + (a : Int)) ≤ 275 ∧ (20 + (a : Int)) ≤ 275
    omega
  · rw [List.takeWhile_append_dropWhile] at hx
    exact h x hx
theorem LimB.adm {l : List I12} (h : LimB l) (s : ByteArray) (v : V3) : LimB (admL l s v) := by
  intro x hx
  unfold admL at hx
  obtain ⟨y, hy, rfl⟩ := List.mem_map.1 hx
  exact h y hy
theorem LimB.step {l : List I12} (h : LimB l) (n b : Nat) {a : Nat} (ha : a ≤ 255) : LimB (stepM l n a b) := by
  unfold stepM
  split
  · unfold admM
    split
    · exact (h.create _ _ ha).adm _ _
    · exact h.create _ _ ha
  · exact h
theorem make_lim : ∀ (ns : List Nat) (l : List I12), (∀ x ∈ ns, x ≤ 255) → LimB l → LimB (makeT ns l)
  | n :: a :: b :: r, l, hr, h => by
    rw [makeT]
    split
    · exact make_lim r _ (fun x hx => hr x (by simp [hx])) (h.step n b (hr a (by simp)))
    · exact h
  | [], l, _, h => h
  | [n], l, _, h => h
  | [n, a], l, _, h => h
theorem up_ne {l : List I12} (h : RT l) {x : I12} (hx : x ∈ l) : upI l x.name ≠ [] := by rw [up_cons h hx]; simp
theorem free_le {l : List I12} {s t : ByteArray} (ht : t ∈ upI l s) {y : I12} (hy : look l t = some y) : leV (roomV l s) (freeV y) = true := by
  have := roomU_le l (upI l s) t ht
  rwa [freeA_at hy] at this
theorem fits_room {l : List I12} (h : RT l) {x : I12} (hx : x ∈ l) : admE l x.name (roomV l x.name) = 0 := by
  unfold admE
  rw [if_neg (by rw [fit_may (room_fit h _)]; decide), if_neg (up_ne h hx), if_neg]
  rw [Bool.not_eq_false]
  unfold roomB
  rw [List.all_eq_true]
  intro y hy
  by_cases hm : y.name ∈ upI l x.name
  · have := le_iff.1 (free_le hm (look_mem h.srt.uq hy))
    rw [show leV (addV y.sub (roomV l x.name)) y.lim = true from le_iff.2 (by
      unfold freeV subV at this
      unfold addV
      simp only at this ⊢
      omega)]
    simp
  · rw [decide_eq_false hm]; rfl
/-- One more of a resource. -/
def moreV (v : V3) : Nat → V3
  | 0 => ⟨v.c + 1, v.m, v.p⟩
  | 1 => ⟨v.c, v.m + 1, v.p⟩
  | _ => ⟨v.c, v.m, v.p + 1⟩
theorem fits_more {l : List I12} (h : RT l) (hl : LimB l) {x : I12} (hx : x ∈ l) (q : Nat) : admE l x.name (moreV (roomV l x.name) q) = 12 := by
  have hf := room_fit h x.name
  obtain ⟨⟨t1, h1, e1⟩, ⟨t2, h2, e2⟩, ⟨t3, h3, e3⟩⟩ := roomU_at l (up_ne h hx)
  have key : ∀ t, t ∈ upI l x.name → ∃ y ∈ l, y.name = t ∧ freeA l t = freeV y := fun t ht => by
    obtain ⟨k, y, -, hy, hlk⟩ := up_found ht
    exact ⟨y, List.mem_of_getElem? hy, (look_name hlk).2, freeA_at hlk⟩
  obtain ⟨y1, m1, n1, f1⟩ := key t1 h1
  obtain ⟨y2, m2, n2, f2⟩ := key t2 h2
  obtain ⟨y3, m3, n3, f3⟩ := key t3 h3
  have b1 := hl y1 m1
  have b2 := hl y2 m2
  have b3 := hl y3 m3
  have s1 := may_bounds (h.may y1 m1)
  have s2 := may_bounds (h.may y2 m2)
  have s3 := may_bounds (h.may y3 m3)
  rw [f1] at e1; rw [f2] at e2; rw [f3] at e3
  have r1 : (roomV l x.name).c = y1.lim.c - y1.sub.c := e1
  have r2 : (roomV l x.name).m = y2.lim.m - y2.sub.m := e2
  have r3 : (roomV l x.name).p = y3.lim.p - y3.sub.p := e3
  generalize roomV l x.name = v at *
  unfold FitV at hf
  have hm : mayV (moreV v q) = true := by
    rw [may_iff]
    match q with
    | 0 => simp only [moreV]; omega
    | 1 => simp only [moreV]; omega
    | q + 2 => simp only [moreV]; omega
  unfold admE
  rw [if_neg (by rw [hm]; decide), if_neg (up_ne h hx), if_pos]
  have bad : ∃ y ∈ l, y.name ∈ upI l x.name ∧ leV (addV y.sub (moreV v q)) y.lim = false := by
    match q with
    | 0 => exact ⟨y1, m1, by rw [n1]; exact h1, Bool.eq_false_iff.2 (fun e => by
        have := le_iff.1 e
        simp only [addV, moreV] at this
        omega)⟩
    | 1 => exact ⟨y2, m2, by rw [n2]; exact h2, Bool.eq_false_iff.2 (fun e => by
        have := le_iff.1 e
        simp only [addV, moreV] at this
        omega)⟩
    | q + 2 => exact ⟨y3, m3, by rw [n3]; exact h3, Bool.eq_false_iff.2 (fun e => by
        have := le_iff.1 e
        simp only [addV, moreV] at this
        omega)⟩
  obtain ⟨y, hy, hin, hle⟩ := bad
  refine Bool.eq_false_iff.2 fun e => ?_
  have := List.all_eq_true.1 e y hy
  rw [hle, decide_eq_true hin] at this
  cases this
theorem tight_ne {l : List I12} (h : RT l) {x : I12} (hx : x ∈ l) : tightL l x.name ≠ [] := by
  obtain ⟨⟨t, ht, e⟩, -, -⟩ := roomU_at l (up_ne h hx)
  have : t ∈ tightL l x.name := by
    unfold tightL
    rw [List.mem_filter]
    refine ⟨ht, ?_⟩
    unfold eq1
    rw [decide_eq_true (show (freeA l t).c = (roomV l x.name).c from e.symm)]; rfl
  intro e
  rw [e] at this; cases this
/-- Where it is tight some limit is reached. -/
theorem tight_full {l : List I12} (h : RT l) {s t : ByteArray} (ht : t ∈ tightL l s) : ∃ (k : Nat) (y : I12), iIdx (admL l s (roomV l s)) t = some k ∧ (admL l s (roomV l s))[k]? = some y ∧ (y.sub.c = y.lim.c ∨ y.sub.m = y.lim.m ∨ y.sub.p = y.lim.p) := by
  unfold tightL at ht
  rw [List.mem_filter] at ht
  obtain ⟨ht, he⟩ := ht
  obtain ⟨k, x, hk, hx, hlk⟩ := up_found ht
  have hn := (look_name hlk).2
  refine ⟨k, admF (upI l s) s (roomV l s) x, ?_, ?_, ?_⟩
  · unfold admL
    rw [idx_map (f := admF (upI l s) s (roomV l s)) (fun _ => rfl)]; exact hk
  · unfold admL
    rw [List.getElem?_map, hx]; rfl
  · rw [freeA_at hlk] at he
    unfold eq1 at he
    simp only [Bool.or_eq_true, decide_eq_true_eq] at he
    have hs : (admF (upI l s) s (roomV l s) x).sub = addV x.sub (roomV l s) := by
      show (if x.name ∈ upI l s then addV x.sub (roomV l s) else x.sub) = _
      rw [if_pos (by rw [hn]; exact ht)]
    rw [hs]
    show (addV x.sub (roomV l s)).c = x.lim.c ∨ (addV x.sub (roomV l s)).m = x.lim.m ∨ (addV x.sub (roomV l s)).p = x.lim.p
    unfold freeV subV at he
    unfold addV
    simp only at he ⊢
    omega
end Go.Proofs.Ytffmmoligdoclaa
