/- Room: the least on the way up (pure). -/
import Derived.Test.YtmpakgabehplbaaTrK
import Derived.Test.YtmpakgabehplbaaTrN
namespace Go.Proofs.Ytmpakgabehplbaa
open Go.RowKit
set_option linter.unusedVariables false
set_option linter.unusedSimpArgs false
def minV (a b : V3) : V3 := ⟨min a.c b.c, min a.m b.m, min a.p b.p⟩
/-- How much a node's limit is above what is in use. -/
def freeV (x : I12) : V3 := subV x.lim x.sub
def freeA (l : List I12) (t : ByteArray) : V3 := match look l t with | some x => freeV x | none => z3
def roomF (l : List I12) (v : V3) (us : List ByteArray) : V3 := us.foldl (fun v t => minV v (freeA l t)) v
def roomU (l : List I12) : List ByteArray → V3
  | [] => z3
  | t :: r => roomF l (freeA l t) r
/-- The least room on the way up. -/
def roomV (l : List I12) (s : ByteArray) : V3 := roomU l (upI l s)
def okU (us : List ByteArray) : Bool := !us.isEmpty
def eq1 (a b : V3) : Bool := decide (a.c = b.c) || (decide (a.m = b.m) || decide (a.p = b.p))
/-- Where it is tight, of the first k. -/
def tightTo (l : List I12) (v : V3) (us : List ByteArray) (k : Nat) : List ByteArray := (us.take k).filter fun t => eq1 (freeA l t) v
def tightL (l : List I12) (s : ByteArray) : List ByteArray := (upI l s).filter fun t => eq1 (freeA l t) (roomV l s)
theorem tightTo_all (l : List I12) (s : ByteArray) : tightTo l (roomV l s) (upI l s) (upI l s).length = tightL l s := by unfold tightTo tightL; rw [List.take_length]
theorem tightTo_step {l : List I12} {v : V3} {us : List ByteArray} {k : Nat} {t : ByteArray} (h : us[k]? = some t) : tightTo l v us (k + 1) = if eq1 (freeA l t) v = true then tightTo l v us k ++ [t] else tightTo l v us k := by
  unfold tightTo
  rw [List.take_add_one, h]
  simp only [Option.toList_some, List.filter_append]
  by_cases e : eq1 (freeA l t) v = true
  · simp [e]
  · simp [e]
theorem tightTo_len (l : List I12) (v : V3) (us : List ByteArray) (k : Nat) : (tightTo l v us k).length ≤ k := by
  unfold tightTo
  refine Nat.le_trans (List.length_filter_le ..) ?_
  rw [List.length_take]; omega
def inB (ns : List ByteArray) (s : ByteArray) : Bool := ns.any fun z => decide (z = s)
theorem inB_iff {ns : List ByteArray} {s : ByteArray} : inB ns s = true ↔ s ∈ ns := by unfold inB; simp
def underTo (us ns : List ByteArray) (k : Nat) : Bool := (us.take k).any fun t => inB ns t
/-- Is somebody above among these names? -/
def underB (l : List I12) (ns : List ByteArray) (x : I12) : Bool := (upI l x.name).tail.any fun t => inB ns t
def shareTo (l : List I12) (ns : List ByteArray) (k : Nat) : V3 := (l.take k).foldl (fun v x => if (inB ns x.name && !underB l ns x) = true then addV v x.sub else v) z3
/-- What these share. -/
def shareV (l : List I12) (ns : List ByteArray) : V3 := shareTo l ns l.length
theorem shareTo_step {l : List I12} {ns : List ByteArray} {k : Nat} {x : I12} (h : l[k]? = some x) : shareTo l ns (k + 1) = if (inB ns x.name && !underB l ns x) = true then addV (shareTo l ns k) x.sub else shareTo l ns k := by
  unfold shareTo
  rw [List.take_add_one, h, List.foldl_append]
  rfl
theorem share_up {l : List I12} {ns : List ByteArray} (h : ∀ y ∈ l, mayV y.sub = true) : ∀ k, k ≤ l.length → (shareTo l ns k).Upto ((k : Int) * 1099511627776)
  | 0, _ => by simp [shareTo, V3.Upto, z3]
  | k + 1, hk => by
    have ih := share_up (ns := ns) h k (by omega)
    have hx := List.getElem?_eq_getElem (show k < l.length by omega)
    have hb := may_bounds (h _ (List.getElem_mem (show k < l.length by omega)))
    rw [shareTo_step hx]
    split
    · unfold V3.Upto addV at *
      simp only
      omega
    · unfold V3.Upto at *
      omega
/-- Who is above: found, with room. -/
theorem up_found {l : List I12} {s t : ByteArray} (ht : t ∈ upI l s) : ∃ (k : Nat) (x : I12), iIdx l t = some k ∧ l[k]? = some x ∧ look l t = some x := by
  unfold upI at ht
  obtain ⟨x, hx⟩ := up_known _ _ _ ht
  obtain ⟨k, h1, h2⟩ := look_at hx
  exact ⟨k, x, h1, h2, hx⟩
theorem freeA_at {l : List I12} {t : ByteArray} {x : I12} (h : look l t = some x) : freeA l t = freeV x := by unfold freeA; rw [h]
def FitV (v : V3) : Prop := (0 ≤ v.c ∧ v.c ≤ 1099511627776) ∧ (0 ≤ v.m ∧ v.m ≤ 1099511627776) ∧ (0 ≤ v.p ∧ v.p ≤ 1099511627776)
theorem free_fit {l : List I12} (h : RT l) {x : I12} (hx : x ∈ l) : FitV (freeV x) := by
  obtain ⟨-, g2, -, -, -, g6, g7⟩ := one_iff.1 (h.one x hx)
  have h1 := may_bounds g2
  have h2 := may_bounds g7
  have h3 := le_iff.1 g6
  unfold FitV freeV subV
  simp only
  omega
theorem freeA_fit {l : List I12} (h : RT l) (t : ByteArray) : FitV (freeA l t) := by
  unfold freeA
  split
  · rename_i x hx
    exact free_fit h (look_name hx).1
  · unfold FitV z3; simp
theorem min_fit {a b : V3} (h1 : FitV a) (h2 : FitV b) : FitV (minV a b) := by
  unfold FitV minV at *
  simp only
  omega
theorem roomF_fit {l : List I12} (h : RT l) : ∀ (us : List ByteArray) (v : V3), FitV v → FitV (roomF l v us)
  | [], v, hv => hv
  | t :: r, v, hv => roomF_fit h r _ (min_fit hv (freeA_fit h t))
theorem roomU_fit {l : List I12} (h : RT l) (us : List ByteArray) : FitV (roomU l us) := by
  cases us with
  | nil => unfold roomU FitV z3; simp
  | cons t r => exact roomF_fit h r _ (freeA_fit h t)
theorem room_fit {l : List I12} (h : RT l) (s : ByteArray) : FitV (roomV l s) := roomU_fit h _
theorem fit_may {v : V3} (h : FitV v) : mayV v = true := may_iff.2 h
/-- The room of so many of them. -/
def roomTo (l : List I12) (us : List ByteArray) (k : Nat) : V3 := roomU l (us.take k)
theorem roomTo_one {l : List I12} {us : List ByteArray} {t : ByteArray} (h : us[0]? = some t) : roomTo l us 1 = freeA l t := by
  cases us with
  | nil => simp at h
  | cons a r =>
    simp at h; subst h
    simp [roomTo, roomU, roomF]
theorem roomTo_step {l : List I12} {us : List ByteArray} {k : Nat} {t : ByteArray} (h : us[k]? = some t) (hk : 0 < k) : roomTo l us (k + 1) = minV (roomTo l us k) (freeA l t) := by
  unfold roomTo
  rw [List.take_add_one, h]
  cases us with
  | nil => simp at h
  | cons a r =>
    cases k with
    | zero => omega
    | succ k =>
      simp only [List.take_succ_cons, Option.toList_some, List.cons_append, roomU, roomF, List.foldl_append, List.foldl_cons, List.foldl_nil]
theorem roomTo_all (l : List I12) (us : List ByteArray) : roomTo l us us.length = roomU l us := by unfold roomTo; rw [List.take_length]
end Go.Proofs.Ytmpakgabehplbaa
namespace Go.Proofs.Ytmpakgabehplbaa
open Go.RowKit
set_option linter.unusedVariables false
set_option linter.unusedSimpArgs false
/-- Who is above somebody: itself, and who is above its parent. -/
theorem up_cons {l : List I12} (h : RT l) {x : I12} (hx : x ∈ l) : upI l x.name = x.name :: upI l x.parent := by
  have e := upF_lsome (look_mem h.srt.uq hx) l.length
  have hl := (two_iff.1 (h.two x hx)).2
  unfold upI at hl ⊢
  rw [e] at hl ⊢
  rw [List.length_cons] at hl
  rw [upF_next l.length x.parent (by omega)]
theorem up_root {l : List I12} (h : RT l) : upI l ⟨#[]⟩ = [] := by
  unfold upI
  refine upF_lnone (look_none.2 fun x hx => ?_) _
  exact name_ne (one_iff.1 (h.one x hx)).1
theorem minV_assoc (a b c : V3) : minV (minV a b) c = minV a (minV b c) := by
  unfold minV
  simp only [V3.mk.injEq]
  omega
theorem roomF_min (l : List I12) : ∀ (us : List ByteArray) (v : V3) (t : ByteArray), roomF l v (t :: us) = minV v (roomU l (t :: us))
  | [], v, t => rfl
  | a :: us, v, t => by
    have ih := roomF_min l us (minV v (freeA l t)) a
    have ih2 := roomF_min l us (freeA l t) a
    show roomF l (minV v (freeA l t)) (a :: us) = minV v (roomF l (freeA l t) (a :: us))
    rw [ih, ih2, minV_assoc]
theorem min_le1 (a b : V3) : leV (minV a b) a = true := by rw [le_iff]; unfold minV; simp only; omega
theorem min_le2 (a b : V3) : leV (minV a b) b = true := by rw [le_iff]; unfold minV; simp only; omega
theorem roomF_le (l : List I12) : ∀ (us : List ByteArray) (v : V3), leV (roomF l v us) v = true
  | [], v => le_self v
  | t :: r, v => le_trans (roomF_le l r (minV v (freeA l t))) (min_le1 _ _)
/-- There is never more room below than above. -/
theorem room_up {l : List I12} (h : RT l) {x : I12} (hx : x ∈ l) : leV (roomV l x.name) (freeV x) = true ∧ (x.parent ≠ ⟨#[]⟩ → okU (upI l x.parent) = true ∧ leV (roomV l x.name) (roomV l x.parent) = true) := by
  have e : roomV l x.name = roomF l (freeV x) (upI l x.parent) := by
    unfold roomV
    rw [up_cons h hx]
    show roomF l (freeA l x.name) _ = _
    rw [freeA_at (look_mem h.srt.uq hx)]
  refine ⟨by rw [e]; exact roomF_le l _ _, fun hp => ?_⟩
  obtain ⟨-, -, -, g4, -⟩ := one_iff.1 (h.one x hx)
  rcases g4 with g4 | ⟨y, hy, hyn⟩
  · exact absurd g4 hp
  · have e2 := up_cons h hy
    rw [hyn] at e2
    rw [e]
    unfold roomV
    rw [e2]
    refine ⟨rfl, ?_⟩
    rw [roomF_min]
    exact min_le2 _ _
theorem ok_up {l : List I12} (h : RT l) {x : I12} (hx : x ∈ l) : okU (upI l x.name) = true := by rw [up_cons h hx]; rfl
/-- Each number of the least is that of somebody on the way. -/
theorem roomF_at (l : List I12) : ∀ (us : List ByteArray) (v : V3), ((roomF l v us).c = v.c ∨ ∃ t ∈ us, (roomF l v us).c = (freeA l t).c) ∧ ((roomF l v us).m = v.m ∨ ∃ t ∈ us, (roomF l v us).m = (freeA l t).m) ∧ ((roomF l v us).p = v.p ∨ ∃ t ∈ us, (roomF l v us).p = (freeA l t).p)
  | [], v => ⟨.inl rfl, .inl rfl, .inl rfl⟩
  | t :: r, v => by
    obtain ⟨h1, h2, h3⟩ := roomF_at l r (minV v (freeA l t))
    have e : roomF l v (t :: r) = roomF l (minV v (freeA l t)) r := rfl
    rw [e]
    have hc : (minV v (freeA l t)).c = v.c ∨ (minV v (freeA l t)).c = (freeA l t).c := by unfold minV; simp only; omega
    have hm : (minV v (freeA l t)).m = v.m ∨ (minV v (freeA l t)).m = (freeA l t).m := by unfold minV; simp only; omega
    have hp : (minV v (freeA l t)).p = v.p ∨ (minV v (freeA l t)).p = (freeA l t).p := by unfold minV; simp only; omega
    refine ⟨?_, ?_, ?_⟩
    · rcases h1 with h1 | ⟨q, hq, h1⟩
      · rcases hc with hc | hc
        · exact .inl (h1.trans hc)
        · exact .inr ⟨t, List.mem_cons_self, h1.trans hc⟩
      · exact .inr ⟨q, List.mem_cons_of_mem _ hq, h1⟩
    · rcases h2 with h2 | ⟨q, hq, h2⟩
      · rcases hm with hm | hm
        · exact .inl (h2.trans hm)
        · exact .inr ⟨t, List.mem_cons_self, h2.trans hm⟩
      · exact .inr ⟨q, List.mem_cons_of_mem _ hq, h2⟩
    · rcases h3 with h3 | ⟨q, hq, h3⟩
      · rcases hp with hp | hp
        · exact .inl (h3.trans hp)
        · exact .inr ⟨t, List.mem_cons_self, h3.trans hp⟩
      · exact .inr ⟨q, List.mem_cons_of_mem _ hq, h3⟩
theorem roomU_at (l : List I12) {us : List ByteArray} (hu : us ≠ []) : (∃ t ∈ us, (roomU l us).c = (freeA l t).c) ∧ (∃ t ∈ us, (roomU l us).m = (freeA l t).m) ∧ (∃ t ∈ us, (roomU l us).p = (freeA l t).p) := by
  cases us with
  | nil => exact absurd rfl hu
  | cons t r =>
    obtain ⟨h1, h2, h3⟩ := roomF_at l r (freeA l t)
    refine ⟨?_, ?_, ?_⟩
    · rcases h1 with h1 | ⟨q, hq, h1⟩
      · exact ⟨t, List.mem_cons_self, h1⟩
      · exact ⟨q, List.mem_cons_of_mem _ hq, h1⟩
    · rcases h2 with h2 | ⟨q, hq, h2⟩
      · exact ⟨t, List.mem_cons_self, h2⟩
      · exact ⟨q, List.mem_cons_of_mem _ hq, h2⟩
    · rcases h3 with h3 | ⟨q, hq, h3⟩
      · exact ⟨t, List.mem_cons_self, h3⟩
      · exact ⟨q, List.mem_cons_of_mem _ hq, h3⟩
theorem roomU_le (l : List I12) : ∀ (us : List ByteArray) (t : ByteArray), t ∈ us → leV (roomU l us) (freeA l t) = true
  | [], t, h => by cases h
  | [a], t, h => by
    rcases List.mem_cons.1 h with rfl | h
    · exact le_self _
    · cases h
  | a :: b :: r, t, h => by
    have e : roomU l (a :: b :: r) = minV (freeA l a) (roomU l (b :: r)) := roomF_min l r (freeA l a) b
    rw [e]
    rcases List.mem_cons.1 h with rfl | h
    · exact min_le1 _ _
    · exact le_trans (min_le2 _ _) (roomU_le l (b :: r) t h)
end Go.Proofs.Ytmpakgabehplbaa
