/- Two that are let in one behind the other (pure). -/
import Derived.Test.YtekaefeogbmmmaaAdA
namespace Go.Proofs.Ytekaefeogbmmmaa
open Go.RowKit
set_option linter.unusedVariables false
set_option linter.unusedSimpArgs false
theorem adm_map (l : List I12) (p q : ByteArray) (u v : V3) : admL (admL l p u) q v = l.map fun z => admF (upI l q) q v (admF (upI l p) p u z) := by
  show List.map (admF (upI (admL l p u) q) q v) (admL l p u) = _
  rw [up_adm]
  unfold admL
  rw [List.map_map]
  rfl
theorem addV_right (a b c : V3) : addV (addV a b) c = addV (addV a c) b := by rw [addV_assoc, addV_comm b, addV_assoc]
theorem adm_comm (l : List I12) (p q : ByteArray) (u v : V3) : admL (admL l p u) q v = admL (admL l q v) p u := by
  rw [adm_map, adm_map]
  refine List.map_congr_left fun z _ => ?_
  show (⟨z.name, z.parent, z.lim, if z.name = q then addV (if z.name = p then addV z.own u else z.own) v else (if z.name = p then addV z.own u else z.own), if z.name ∈ upI l q then addV (if z.name ∈ upI l p then addV z.sub u else z.sub) v else (if z.name ∈ upI l p then addV z.sub u else z.sub), z.ver⟩ : I12)
    = ⟨z.name, z.parent, z.lim, if z.name = p then addV (if z.name = q then addV z.own v else z.own) u else (if z.name = q then addV z.own v else z.own), if z.name ∈ upI l p then addV (if z.name ∈ upI l q then addV z.sub v else z.sub) u else (if z.name ∈ upI l q then addV z.sub v else z.sub), z.ver⟩
  rw [I12.mk.injEq]
  refine ⟨rfl, rfl, rfl, ?_, ?_, rfl⟩
  · by_cases a : z.name = p
    · by_cases b : z.name = q
      · simp only [if_pos a, if_pos b]; exact addV_right _ _ _
      · simp only [if_pos a, if_neg b]
    · by_cases b : z.name = q
      · simp only [if_neg a, if_pos b]
      · simp only [if_neg a, if_neg b]
  · by_cases a : z.name ∈ upI l p
    · by_cases b : z.name ∈ upI l q
      · simp only [if_pos a, if_pos b]; exact addV_right _ _ _
      · simp only [if_pos a, if_neg b]
    · by_cases b : z.name ∈ upI l q
      · simp only [if_neg a, if_pos b]
      · simp only [if_neg a, if_neg b]
theorem adm_both (l : List I12) (p : ByteArray) (u v : V3) : admL (admL l p u) p v = admL l p (addV u v) := by
  rw [adm_map]
  unfold admL
  refine List.map_congr_left fun z _ => ?_
  show (⟨z.name, z.parent, z.lim, if z.name = p then addV (if z.name = p then addV z.own u else z.own) v else (if z.name = p then addV z.own u else z.own), if z.name ∈ upI l p then addV (if z.name ∈ upI l p then addV z.sub u else z.sub) v else (if z.name ∈ upI l p then addV z.sub u else z.sub), z.ver⟩ : I12)
    = ⟨z.name, z.parent, z.lim, if z.name = p then addV z.own (addV u v) else z.own, if z.name ∈ upI l p then addV z.sub (addV u v) else z.sub, z.ver⟩
  rw [I12.mk.injEq]
  refine ⟨rfl, rfl, rfl, ?_, ?_, rfl⟩
  · by_cases a : z.name = p
    · rw [if_pos a, if_pos a, if_pos a, addV_assoc]
    · rw [if_neg a, if_neg a, if_neg a]
  · by_cases a : z.name ∈ upI l p
    · rw [if_pos a, if_pos a, if_pos a, addV_assoc]
    · rw [if_neg a, if_neg a, if_neg a]
/-- Where it may be let in: there is room above. -/
theorem admE_iff {l : List I12} (h : RT l) {x : I12} (hx : x ∈ l) {v : V3} (hv : mayV v = true) : admE l x.name v = 0 ↔ ∀ z ∈ l, z.name ∈ upI l x.name → leV (addV z.sub v) z.lim = true := by
  unfold admE
  rw [if_neg (by rw [hv]; decide), if_neg (by rw [up_cons h hx]; simp)]
  have hb : roomB l (upI l x.name) v = true ↔ ∀ z ∈ l, z.name ∈ upI l x.name → leV (addV z.sub v) z.lim = true := by
    unfold roomB
    rw [List.all_eq_true]
    constructor
    · intro g z hz hm
      have := g z hz
      simpa [hm] using this
    · intro g z hz
      by_cases hm : z.name ∈ upI l x.name
      · rw [g z hz hm]; simp
      · simp [hm]
  rw [← hb]
  cases roomB l (upI l x.name) v <;> simp
theorem admE_or {l : List I12} (h : RT l) {x : I12} (hx : x ∈ l) {v : V3} (hv : mayV v = true) : admE l x.name v = 0 ∨ admE l x.name v = 12 := by
  unfold admE
  rw [if_neg (by rw [hv]; decide), if_neg (by rw [up_cons h hx]; simp)]
  by_cases b : roomB l (upI l x.name) v = false
  · rw [if_pos b]; exact .inr rfl
  · rw [if_neg b]; exact .inl rfl
theorem adm_mem {l : List I12} {x : I12} (hx : x ∈ l) (p : ByteArray) (u : V3) : ∃ x' ∈ admL l p u, x'.name = x.name := ⟨_, List.mem_map.2 ⟨x, hx, rfl⟩, rfl⟩
/-- What both together have room for, each has alone, in either order. -/
theorem twice {l : List I12} (h : RT l) {x y : I12} (hx : x ∈ l) (hy : y ∈ l) {u v : V3} (hu : mayV u = true) (hv : mayV v = true) (h1 : admE l x.name u = 0) (h2 : admE (admL l x.name u) y.name v = 0) :
    admE l y.name v = 0 ∧ admE (admL l y.name v) x.name u = 0 := by
  have r1 := (admE_iff h hx hu).1 h1
  obtain ⟨y', hy', ey⟩ := adm_mem hy x.name u
  have k2 := (admE_iff (adm_ok h h1) hy' hv).1 (by rw [ey]; exact h2)
  rw [ey, up_adm] at k2
  have r2 : ∀ z ∈ l, z.name ∈ upI l y.name → leV (addV (if z.name ∈ upI l x.name then addV z.sub u else z.sub) v) z.lim = true := fun z hz hm => k2 _ (List.mem_map.2 ⟨z, hz, rfl⟩) hm
  have hu' := may_bounds hu
  have g1 : admE l y.name v = 0 := (admE_iff h hy hv).2 fun z hz hm => by
    have e := r2 z hz hm
    by_cases a : z.name ∈ upI l x.name
    · rw [if_pos a] at e
      have e := le_iff.1 e
      refine le_iff.2 ?_
      simp only [addV] at e ⊢
      omega
    · rwa [if_neg a] at e
  refine ⟨g1, ?_⟩
  obtain ⟨x', hx', ex⟩ := adm_mem hx y.name v
  rw [← ex]
  refine (admE_iff (adm_ok h g1) hx' hu).2 ?_
  rw [ex, up_adm]
  intro z' hz' hm
  obtain ⟨z, hz, rfl⟩ := List.mem_map.1 hz'
  have hm : z.name ∈ upI l x.name := hm
  show leV (addV (if z.name ∈ upI l y.name then addV z.sub v else z.sub) u) z.lim = true
  by_cases b : z.name ∈ upI l y.name
  · have e := r2 z hz b
    rw [if_pos hm] at e
    rw [if_pos b, addV_right]
    exact e
  · rw [if_neg b]
    exact r1 z hz hm
/-- One of both together. -/
theorem both {l : List I12} (h : RT l) {x : I12} (hx : x ∈ l) {u v : V3} (hu : mayV u = true) (hv : mayV v = true) (huv : mayV (addV u v) = true) (h1 : admE l x.name u = 0) (h2 : admE (admL l x.name u) x.name v = 0) : admE l x.name (addV u v) = 0 := by
  obtain ⟨y', hy', ey⟩ := adm_mem hx x.name u
  have k2 := (admE_iff (adm_ok h h1) hy' hv).1 (by rw [ey]; exact h2)
  rw [ey, up_adm] at k2
  refine (admE_iff h hx huv).2 fun z hz hm => ?_
  have e : leV (addV (if z.name ∈ upI l x.name then addV z.sub u else z.sub) v) z.lim = true := k2 _ (List.mem_map.2 ⟨z, hz, rfl⟩) hm
  rw [if_pos hm, addV_assoc] at e
  exact e
end Go.Proofs.Ytekaefeogbmmmaa
