/- What is let out of a live tree (pure). -/
import Derived.Test.YtekaefeogbmmmaaRmH
namespace Go.Proofs.Ytekaefeogbmmmaa
open Go.RowKit
set_option linter.unusedVariables false
set_option linter.unusedSimpArgs false
def negV (v : V3) : V3 := ⟨-v.c, -v.m, -v.p⟩
theorem add_neg (a b : V3) : addV a (negV b) = subV a b := by simp only [addV, negV, subV, V3.mk.injEq]; omega
theorem add_sub_same (a b : V3) : addV (addV a b) (negV b) = a := by cases a; simp only [addV, negV, V3.mk.injEq]; omega
/-- Letting out is letting less in. -/
def relL (l : List I12) (s : ByteArray) (v : V3) : List I12 := admL l s (negV v)
def ownAt (l : List I12) (s : ByteArray) : V3 := match look l s with | some y => y.own | none => z3
theorem ownAt_at {l : List I12} {s : ByteArray} {y : I12} (h : look l s = some y) : ownAt l s = y.own := by unfold ownAt; rw [h]
/-- What a Release says. -/
def relE (l : List I12) (s : ByteArray) (v : V3) : Nat := if mayV v = false then 1 else if upI l s = [] then 2 else if leV v (ownAt l s) = false then 1 else 0
theorem rel_len (l : List I12) (s : ByteArray) (v : V3) : (relL l s v).length = l.length := List.length_map _
theorem up_look {l : List I12} {s : ByteArray} (h : upI l s ≠ []) : ∃ y, look l s = some y := by
  cases hs : look l s with
  | none => exact absurd (upF_lnone hs _) h
  | some y => exact ⟨y, rfl⟩
theorem rel_right {l : List I12} (h : RT l) {s : ByteArray} {v : V3} (hv : mayV v = true) {y : I12} (hy : look l s = some y) (hle : leV v y.own = true) : RT (relL l s v) := by
  obtain ⟨ym, yn⟩ := look_name hy
  have hv' := may_bounds hv
  have hys := le_iff.1 (le_trans hle (own_sub h ym))
  have yo := may_bounds ((one_iff.1 (h.one y ym)).2.2.1)
  have hle' := le_iff.1 hle
  have hge : ∀ x ∈ l, x.name ∈ upI l s → leV v x.sub = true := by
    intro x hx hm
    rw [← yn] at hm
    obtain ⟨z, hz, e, hl⟩ := sub_up h (l.length + 1) y ym x.name hm
    have h1 := look_mem h.srt.uq hz
    rw [e, look_mem h.srt.uq hx] at h1
    rw [Option.some.inj h1]
    exact le_trans (le_trans hle (own_sub h ym)) hl
  have hsub : ∀ x ∈ l, leV (admF (upI l s) s (negV v) x).sub x.lim = true ∧ mayV (admF (upI l s) s (negV v) x).sub = true := by
    intro x hx
    obtain ⟨-, g2, -, -, -, g6, g7⟩ := one_iff.1 (h.one x hx)
    show leV (if x.name ∈ upI l s then addV x.sub (negV v) else x.sub) x.lim = true ∧ mayV (if x.name ∈ upI l s then addV x.sub (negV v) else x.sub) = true
    split
    · rename_i hm
      have e0 := le_iff.1 (hge x hx hm)
      have e1 := le_iff.1 g6
      have e3 := may_bounds g7
      refine ⟨le_iff.2 ?_, may_iff.2 ?_⟩
      · simp only [addV, negV]; omega
      · simp only [addV, negV]; omega
    · exact ⟨g6, g7⟩
  unfold relL admL
  refine ⟨by rw [List.length_map]; exact h.len, List.pairwise_map.2 h.srt, fun x' hx' => ?_, fun x' hx' => ?_⟩
  · obtain ⟨x, hx, rfl⟩ := List.mem_map.1 hx'
    obtain ⟨g1, g2, g3, g4, g5, g6, g7⟩ := one_iff.1 (h.one x hx)
    obtain ⟨k1, k2⟩ := hsub x hx
    refine one_iff.2 ⟨g1, g2, ?_, ?_, g5, k1, k2⟩
    · have e3 := may_bounds g3
      refine may_iff.2 ?_
      show (0 ≤ (if x.name = s then addV x.own (negV v) else x.own).c ∧ (if x.name = s then addV x.own (negV v) else x.own).c ≤ 1099511627776) ∧ (0 ≤ (if x.name = s then addV x.own (negV v) else x.own).m ∧ (if x.name = s then addV x.own (negV v) else x.own).m ≤ 1099511627776) ∧ (0 ≤ (if x.name = s then addV x.own (negV v) else x.own).p ∧ (if x.name = s then addV x.own (negV v) else x.own).p ≤ 1099511627776)
      split
      · rename_i e
        have h1 := look_mem h.srt.uq hx
        rw [e, hy] at h1
        obtain rfl := Option.some.inj h1
        simp only [addV, negV]; omega
      · omega
    · rcases g4 with g4 | ⟨y, hy, e⟩
      · exact .inl g4
      · exact .inr ⟨_, List.mem_map.2 ⟨y, hy, rfl⟩, e⟩
  · obtain ⟨x, hx, rfl⟩ := List.mem_map.1 hx'
    refine two_iff.2 ⟨adm_sum h s (negV v) hx, ?_⟩
    rw [upI_map (f := admF (upI l s) s (negV v)) (fun _ => rfl) (fun _ => rfl), List.length_map]
    exact h.up _
theorem rel_ok {l : List I12} (h : RT l) {s : ByteArray} {v : V3} (h0 : relE l s v = 0) : RT (relL l s v) := by
  unfold relE at h0
  split at h0
  · cases h0
  · rename_i g1
    split at h0
    · cases h0
    · rename_i g2
      split at h0
      · cases h0
      · rename_i g3
        obtain ⟨y, hy⟩ := up_look g2
        rw [ownAt_at hy] at g3
        simp only [Bool.not_eq_false] at g1 g3
        exact rel_right h g1 hy g3
theorem up_adm (l : List I12) (s t : ByteArray) (v : V3) : upI (admL l s v) t = upI l t := upI_map (f := admF (upI l s) s v) (fun _ => rfl) (fun _ => rfl) l t
theorem look_adm (l : List I12) (s t : ByteArray) (v : V3) : look (admL l s v) t = (look l t).map (admF (upI l s) s v) := look_map (f := admF (upI l s) s v) (fun _ => rfl) l t
/-- What was let in and is let out: all is as it was. -/
theorem rel_adm (l : List I12) (s : ByteArray) (v : V3) : relL (admL l s v) s v = l := by
  unfold relL
  rw [show admL (admL l s v) s (negV v) = (admL l s v).map (admF (upI l s) s (negV v)) from by
    show List.map (admF (upI (admL l s v) s) s (negV v)) (admL l s v) = _
    rw [up_adm]]
  unfold admL
  rw [List.map_map]
  refine (List.map_congr_left fun x _ => ?_).trans (List.map_id l)
  show (⟨x.name, x.parent, x.lim, if x.name = s then addV (if x.name = s then addV x.own v else x.own) (negV v) else (if x.name = s then addV x.own v else x.own), if x.name ∈ upI l s then addV (if x.name ∈ upI l s then addV x.sub v else x.sub) (negV v) else (if x.name ∈ upI l s then addV x.sub v else x.sub), x.ver⟩ : I12) = id x
  by_cases a : x.name = s
  · by_cases b : x.name ∈ upI l s
    · simp only [if_pos a, if_pos b, add_sub_same, id]
    · simp only [if_pos a, if_neg b, add_sub_same, id]
  · by_cases b : x.name ∈ upI l s
    · simp only [if_neg a, if_pos b, add_sub_same, id]
    · simp only [if_neg a, if_neg b, id]
/-- What was let in may be let out. -/
theorem rel_back {l : List I12} (h : RT l) {x : I12} (hx : x ∈ l) {v : V3} (hv : mayV v = true) : relE (admL l x.name v) x.name v = 0 := by
  unfold relE
  rw [if_neg (by rw [hv]; decide), if_neg (by rw [up_adm, up_cons h hx]; simp), if_neg]
  have hl : look (admL l x.name v) x.name = some (admF (upI l x.name) x.name v x) := by
    rw [look_adm, look_mem h.srt.uq hx]; rfl
  rw [ownAt_at hl, Bool.not_eq_false]
  have e := may_bounds ((one_iff.1 (h.one x hx)).2.2.1)
  refine le_iff.2 ?_
  show v.c ≤ (if x.name = x.name then addV x.own v else x.own).c ∧ v.m ≤ (if x.name = x.name then addV x.own v else x.own).m ∧ v.p ≤ (if x.name = x.name then addV x.own v else x.own).p
  rw [if_pos rfl]
  simp only [addV]
  omega
/-- More than it takes alone may not be let out. -/
theorem rel_more {l : List I12} (h : RT l) {x : I12} (hx : x ∈ l) : relE l x.name ⟨0, 0, x.own.p + 1⟩ = 1 := by
  unfold relE
  split
  · rfl
  · rw [if_neg (by rw [up_cons h hx]; simp), if_pos]
    rw [ownAt_at (look_mem h.srt.uq hx), ← Bool.not_eq_true, le_iff]
    simp only
    omega
end Go.Proofs.Ytekaefeogbmmmaa
