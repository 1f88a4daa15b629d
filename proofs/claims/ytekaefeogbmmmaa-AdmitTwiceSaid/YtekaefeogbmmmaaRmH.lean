/- Room: the least on the way up (pure). -/
import Derived.Test.YtekaefeogbmmmaaRmA
import Derived.Test.YtekaefeogbmmmaaTrPu
namespace Go.Proofs.Ytekaefeogbmmmaa
open Go.RowKit
set_option linter.unusedVariables false
set_option linter.unusedSimpArgs false
/-- Who is above somebody: itself, and who is above its parent. -/
theorem up_cons {l : List I12} (h : RT l) {x : I12} (hx : x ∈ l) : upI l x.name = x.name :: upI l x.parent := by
  have e := upF_lsome (look_mem h.srt.uq hx) l.length
  have hl := (two_iff.1 (h.two x hx)).2
  unfold upI at hl ⊢
  rw [e] at hl ⊢
  rw [List.length_cons] at hl
  rw [upF_next l.length x.parent (by omega)]
theorem up_root {l : List I12} (h : RT l) : upI l ⟨#[]⟩ = [] := by
  unfold upI
  refine upF_lnone (look_none.2 fun x hx => ?_) _
  exact name_ne (one_iff.1 (h.one x hx)).1
theorem minV_assoc (a b c : V3) : minV (minV a b) c = minV a (minV b c) := by
  unfold minV
  simp only [V3.mk.injEq]
  omega
theorem roomF_min (l : List I12) : ∀ (us : List ByteArray) (v : V3) (t : ByteArray), roomF l v (t :: us) = minV v (roomU l (t :: us))
  | [], v, t => rfl
  | a :: us, v, t => by
    have ih := roomF_min l us (minV v (freeA l t)) a
    have ih2 := roomF_min l us (freeA l t) a
    show roomF l (minV v (freeA l t)) (a :: us) = minV v (roomF l (freeA l t) (a :: us))
    rw [ih, ih2, minV_assoc]
theorem min_le1 (a b : V3) : leV (minV a b) a = true := by rw [le_iff]; unfold minV; simp only; omega
theorem min_le2 (a b : V3) : leV (minV a b) b = true := by rw [le_iff]; unfold minV; simp only; omega
theorem roomF_le (l : List I12) : ∀ (us : List ByteArray) (v : V3), leV (roomF l v us) v = true
  | [], v => le_self v
  | t :: r, v => le_trans (roomF_le l r (minV v (freeA l t))) (min_le1 _ _)
/-- There is never more room below than above. -/
theorem room_up {l : List I12} (h : RT l) {x : I12} (hx : x ∈ l) : leV (roomV l x.name) (freeV x) = true ∧ (x.parent ≠ ⟨#[]⟩ → okU (upI l x.parent) = true ∧ leV (roomV l x.name) (roomV l x.parent) = true) := by
  have e : roomV l x.name = roomF l (freeV x) (upI l x.parent) := by
    unfold roomV
    rw [up_cons h hx]
    show roomF l (freeA l x.name) _ = _
    rw [freeA_at (look_mem h.srt.uq hx)]
  refine ⟨by rw [e]; exact roomF_le l _ _, fun hp => ?_⟩
  obtain ⟨-, -, -, g4, -⟩ := one_iff.1 (h.one x hx)
  rcases g4 with g4 | ⟨y, hy, hyn⟩
  · exact absurd g4 hp
  · have e2 := up_cons h hy
    rw [hyn] at e2
    rw [e]
    unfold roomV
    rw [e2]
    refine ⟨rfl, ?_⟩
    rw [roomF_min]
    exact min_le2 _ _
theorem ok_up {l : List I12} (h : RT l) {x : I12} (hx : x ∈ l) : okU (upI l x.name) = true := by rw [up_cons h hx]; rfl
/-- Each number of the least is that of somebody on the way. -/
theorem roomF_at (l : List I12) : ∀ (us : List ByteArray) (v : V3), ((roomF l v us).c = v.c ∨ ∃ t ∈ us, (roomF l v us).c = (freeA l t).c) ∧ ((roomF l v us).m = v.m ∨ ∃ t ∈ us, (roomF l v us).m = (freeA l t).m) ∧ ((roomF l v us).p = v.p ∨ ∃ t ∈ us, (roomF l v us).p = (freeA l t).p)
  | [], v => ⟨.inl rfl, .inl rfl, .inl rfl⟩
  | t :: r, v => by
    obtain ⟨h1, h2, h3⟩ := roomF_at l r (minV v (freeA l t))
    have e : roomF l v (t :: r) = roomF l (minV v (freeA l t)) r := rfl
    rw [e]
    have hc : (minV v (freeA l t)).c = v.c ∨ (minV v (freeA l t)).c = (freeA l t).c := by unfold minV; simp only; omega
    have hm : (minV v (freeA l t)).m = v.m ∨ (minV v (freeA l t)).m = (freeA l t).m := by unfold minV; simp only; omega
    have hp : (minV v (freeA l t)).p = v.p ∨ (minV v (freeA l t)).p = (freeA l t).p := by unfold minV; simp only; omega
    refine ⟨?_, ?_, ?_⟩
    · rcases h1 with h1 | ⟨q, hq, h1⟩
      · rcases hc with hc | hc
        · exact .inl (h1.trans hc)
        · exact .inr ⟨t, List.mem_cons_self, h1.trans hc⟩
      · exact .inr ⟨q, List.mem_cons_of_mem _ hq, h1⟩
    · rcases h2 with h2 | ⟨q, hq, h2⟩
      · rcases hm with hm | hm
        · exact .inl (h2.trans hm)
        · exact .inr ⟨t, List.mem_cons_self, h2.trans hm⟩
      · exact .inr ⟨q, List.mem_cons_of_mem _ hq, h2⟩
    · rcases h3 with h3 | ⟨q, hq, h3⟩
      · rcases hp with hp | hp
        · exact .inl (h3.trans hp)
        · exact .inr ⟨t, List.mem_cons_self, h3.trans hp⟩
      · exact .inr ⟨q, List.mem_cons_of_mem _ hq, h3⟩
theorem roomU_at (l : List I12) {us : List ByteArray} (hu : us ≠ []) : (∃ t ∈ us, (roomU l us).c = (freeA l t).c) ∧ (∃ t ∈ us, (roomU l us).m = (freeA l t).m) ∧ (∃ t ∈ us, (roomU l us).p = (freeA l t).p) := by
  cases us with
  | nil => exact absurd rfl hu
  | cons t r =>
    obtain ⟨h1, h2, h3⟩ := roomF_at l r (freeA l t)
    refine ⟨?_, ?_, ?_⟩
    · rcases h1 with h1 | ⟨q, hq, h1⟩
      · exact ⟨t, List.mem_cons_self, h1⟩
      · exact ⟨q, List.mem_cons_of_mem _ hq, h1⟩
    · rcases h2 with h2 | ⟨q, hq, h2⟩
      · exact ⟨t, List.mem_cons_self, h2⟩
      · exact ⟨q, List.mem_cons_of_mem _ hq, h2⟩
    · rcases h3 with h3 | ⟨q, hq, h3⟩
      · exact ⟨t, List.mem_cons_self, h3⟩
      · exact ⟨q, List.mem_cons_of_mem _ hq, h3⟩
theorem roomU_le (l : List I12) : ∀ (us : List ByteArray) (t : ByteArray), t ∈ us → leV (roomU l us) (freeA l t) = true
  | [], t, h => by cases h
  | [a], t, h => by
    rcases List.mem_cons.1 h with rfl | h
    · exact le_self _
    · cases h
  | a :: b :: r, t, h => by
    have e : roomU l (a :: b :: r) = minV (freeA l a) (roomU l (b :: r)) := roomF_min l r (freeA l a) b
    rw [e]
    rcases List.mem_cons.1 h with rfl | h
    · exact min_le1 _ _
    · exact le_trans (min_le2 _ _) (roomU_le l (b :: r) t h)
end Go.Proofs.Ytekaefeogbmmmaa
