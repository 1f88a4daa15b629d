/- What is created and deleted again (pure). -/
import Derived.Test.YtmpakgabehplbaaShN
namespace Go.Proofs.Ytmpakgabehplbaa
open Go.RowKit
set_option linter.unusedVariables false
set_option linter.unusedSimpArgs false
theorem step_size {l : List I12} (h : ∀ y ∈ l, y.name.size = 1) (n a b : Nat) : ∀ y ∈ stepM l n a b, y.name.size = 1 := by
  have hc : ∀ k p v, ∀ y ∈ createL l (letS k) p v, y.name.size = 1 := fun k p v y hy => by
    rw [mem_create] at hy
    rcases hy with rfl | hy
    · rfl
    · exact h y hy
  unfold stepM
  split
  · unfold admM
    split
    · intro y hy
      obtain ⟨z, hz, rfl⟩ := List.mem_map.1 hy
      exact hc _ _ _ z hz
    · exact hc _ _ _
  · exact h
theorem make_size : ∀ (ns : List Nat) (l : List I12), (∀ y ∈ l, y.name.size = 1) → ∀ y ∈ makeT ns l, y.name.size = 1
  | n :: a :: b :: r, l, h => by
    rw [makeT]
    split
    · exact make_size r _ (step_size h n a b)
    · exact h
  | [], l, h => h
  | [n], l, h => h
  | [n, a], l, h => h
def noneS : ByteArray := ⟨#[110, 111, 110, 101]⟩
theorem none_not {l : List I12} (h : ∀ y ∈ l, y.name.size = 1) : iIdx l noneS = none := by
  refine look_iff.1 (look_none.2 fun y hy e => ?_)
  have := h y hy
  rw [e] at this
  exact absurd this (by decide)
theorem comes_bad {l : List I12} {s p : ByteArray} {v : V3} (hs : nameB s = false) : createE l s p v = 1 := by
  unfold createE
  rw [hs, Bool.false_and, if_pos rfl]
theorem comes_there {l : List I12} {s p : ByteArray} {v : V3} (hs : nameB s = true) (hv : mayV v = true) (hi : iIdx l s ≠ none) : createE l s p v = 3 := by
  unfold createE
  rw [hs, hv, if_neg (by decide), if_pos hi]
theorem comes_new {l : List I12} {s p : ByteArray} {v : V3} (hs : nameB s = true) (hv : mayV v = true) (hi : iIdx l s = none) (hp : p = ⟨#[]⟩ ∨ ∃ y ∈ l, y.name = p) (hl : l.length < 120) : createE l s p v = 0 := by
  unfold createE
  rw [hs, hv, if_neg (by decide), if_neg (fun h => h hi), if_neg ?_, if_neg (by omega)]
  rintro ⟨h1, h2⟩
  rcases hp with h | ⟨y, hy, h⟩
  · exact h1 h
  · exact iIdx_no h2 y hy h
theorem comes_none {l : List I12} {s : ByteArray} {v : V3} (hs : nameB s = true) (hv : mayV v = true) (hi : iIdx l s = none) (hn : iIdx l noneS = none) : createE l s noneS v = 2 := by
  unfold createE
  rw [hs, hv, if_neg (by decide), if_neg (fun h => h hi), if_pos ⟨by decide, hn⟩]
theorem comes_gone {l : List I12} (hr : RT l) {s p : ByteArray} {v : V3} (hs : nameB s = true) (hi : iIdx l s = none) (hp : p = ⟨#[]⟩ ∨ ∃ y ∈ l, y.name = p) (hm : RT (createL l s p v)) :
    delE (createL l s p v) s 1 = 0 ∧ delE (createL l s p v) s 2 = 14 ∧ delL (createL l s p v) s = l ∧ ∃ k : Nat, findI (createL l s p v) s = (k : Int) ∧ (createL l s p v)[k]? = some (newI s p v) := by
  have hno := iIdx_no hi
  have nm : newI s p v ∈ createL l s p v := mem_create.2 (.inl rfl)
  have lk : look (createL l s p v) s = some (newI s p v) := look_mem hm.srt.uq nm
  have hps : p ≠ s := by
    rintro rfl
    rcases hp with h | ⟨y, hy, h⟩
    · exact name_ne hs h
    · exact hno y hy h
  have hk : belowI (createL l s p v) s = [] := below_nil.2 fun y hy e => by
    rcases mem_create.1 hy with rfl | hy
    · exact hps e
    · rcases (one_iff.1 (hr.one y hy)).2.2.2.1 with h | ⟨z, hz, h⟩
      · rw [h] at e; exact name_ne hs e.symm
      · exact hno z hz (h.trans e)
  refine ⟨?_, ?_, ?_, find_at lk⟩
  · have o : oldE (createL l s p v) s 1 = 0 := by
      unfold oldE
      rw [lk]
      rfl
    unfold delE
    rw [if_neg (fun h => h o), itAt_at lk, hk]
    rfl
  · have o : oldE (createL l s p v) s 2 = 14 := by
      unfold oldE
      rw [lk]
      rfl
    unfold delE
    rw [o, if_pos (by decide)]
  · have e : (l.takeWhile fun x => ltS x.name s) ++ (l.dropWhile fun x => ltS x.name s) = l := List.takeWhile_append_dropWhile
    unfold delL createL
    rw [List.filter_append, List.filter_cons, if_neg (by rw [show (newI s p v).name = s from rfl, decide_eq_true rfl]; decide), ← List.filter_append, e]
    exact del_none hno
end Go.Proofs.Ytmpakgabehplbaa
