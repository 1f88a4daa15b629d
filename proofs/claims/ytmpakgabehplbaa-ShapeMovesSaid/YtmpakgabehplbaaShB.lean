/- Trees that change: moves (pure). -/
import Derived.Test.YtmpakgabehplbaaUpS
import Derived.Test.YtmpakgabehplbaaRmH
namespace Go.Proofs.Ytmpakgabehplbaa
open Go.RowKit
set_option linter.unusedVariables false
set_option linter.unusedSimpArgs false
/-- What is said of somebody, and a version. -/
def oldE (l : List I12) (s : ByteArray) (ver : Int) : Nat := match look l s with | none => 2 | some x => if 0 ≤ ver ∧ x.ver ≠ ver then 14 else 0
def itAt (l : List I12) (s : ByteArray) : I12 := match look l s with | some x => x | none => ⟨⟨#[]⟩, ⟨#[]⟩, z3, z3, z3, 0⟩
theorem itAt_at {l : List I12} {s : ByteArray} {x : I12} (h : look l s = some x) : itAt l s = x := by unfold itAt; rw [h]
theorem old_look {l : List I12} {s : ByteArray} {ver : Int} (h : oldE l s ver = 0) : ∃ x, look l s = some x ∧ itAt l s = x := by
  unfold oldE at h
  cases hs : look l s with
  | none => rw [hs] at h; cases h
  | some x => exact ⟨x, rfl, itAt_at hs⟩
def limF (s : ByteArray) (v : V3) (x : I12) : I12 := ⟨x.name, x.parent, if x.name = s then v else x.lim, x.own, x.sub, if x.name = s then x.ver + 1 else x.ver⟩
def limL (l : List I12) (s : ByteArray) (v : V3) : List I12 := l.map (limF s v)
def limE (l : List I12) (s : ByteArray) (v : V3) (ver : Int) : Nat := if mayV v = false then 1 else if oldE l s ver ≠ 0 then oldE l s ver else if 9007199254740992 ≤ (itAt l s).ver then 4 else if leV (itAt l s).sub v = false then 12 else 0
theorem kidS_map {f : I12 → I12} (hp : ∀ x, (f x).parent = x.parent) (hs : ∀ x, (f x).sub = x.sub) (t : ByteArray) : ∀ l, kidS (l.map f) t = kidS l t
  | [] => rfl
  | y :: r => by rw [List.map_cons, kidS, kidS, hp, hs, kidS_map hp hs t r]
theorem lim_right {l : List I12} (h : RT l) {s : ByteArray} {v : V3} (hv : mayV v = true) {x : I12} (hx : look l s = some x) (hver : x.ver < 9007199254740992) (hle : leV x.sub v = true) : RT (limL l s v) := by
  have key : ∀ y ∈ l, y.name = s → y = x := fun y hy e => by
    have := look_mem h.srt.uq hy
    rw [e, hx] at this
    exact (Option.some.inj this).symm
  unfold limL
  refine ⟨by rw [List.length_map]; exact h.len, List.pairwise_map.2 h.srt, fun y' hy' => ?_, fun y' hy' => ?_⟩
  · obtain ⟨y, hy, rfl⟩ := List.mem_map.1 hy'
    obtain ⟨g1, g2, g3, g4, g5, g6, g7⟩ := one_iff.1 (h.one y hy)
    refine one_iff.2 ⟨g1, ?_, g3, ?_, ?_, ?_, g7⟩
    · show mayV (if y.name = s then v else y.lim) = true
      split
      · exact hv
      · exact g2
    · rcases g4 with g4 | ⟨z, hz, e⟩
      · exact .inl g4
      · exact .inr ⟨_, List.mem_map.2 ⟨z, hz, rfl⟩, e⟩
    · show 1 ≤ (if y.name = s then y.ver + 1 else y.ver) ∧ (if y.name = s then y.ver + 1 else y.ver) ≤ 9007199254740992
      split
      · rename_i e
        have := key y hy e
        subst this
        omega
      · exact g5
    · show leV y.sub (if y.name = s then v else y.lim) = true
      split
      · rename_i e
        rw [key y hy e]; exact hle
      · exact g6
  · obtain ⟨y, hy, rfl⟩ := List.mem_map.1 hy'
    obtain ⟨t1, t2⟩ := two_iff.1 (h.two y hy)
    refine two_iff.2 ⟨?_, ?_⟩
    · rw [kidS_map (f := limF s v) (fun _ => rfl) (fun _ => rfl)]; exact t1
    · rw [upI_map (f := limF s v) (fun _ => rfl) (fun _ => rfl), List.length_map]; exact t2
theorem lim_ok {l : List I12} (h : RT l) {s : ByteArray} {v : V3} {ver : Int} (h0 : limE l s v ver = 0) : RT (limL l s v) := by
  unfold limE at h0
  split at h0
  · cases h0
  · rename_i g1
    split at h0
    · rename_i g2; exact absurd h0 g2
    · rename_i g2
      obtain ⟨x, hx, e⟩ := old_look (Decidable.not_not.1 g2)
      rw [e] at h0
      split at h0
      · cases h0
      · rename_i g3
        split at h0
        · cases h0
        · rename_i g4
          simp only [Bool.not_eq_false] at g1 g4
          exact lim_right h g1 hx (by omega) g4
/-- What goes. -/
def delL (l : List I12) (s : ByteArray) : List I12 := l.filter fun x => !decide (x.name = s)
def delE (l : List I12) (s : ByteArray) (ver : Int) : Nat := if oldE l s ver ≠ 0 then oldE l s ver else if (!(belowI l s).isEmpty || !eqV (itAt l s).own z3) = true then 13 else 0
theorem del_split {l : List I12} (hu : Uq l) {x : I12} {s : ByteArray} (hx : look l s = some x) : ∃ a b, l = a ++ x :: b ∧ delL l s = a ++ b ∧ (∀ y ∈ a ++ b, y.name ≠ x.name) := by
  obtain ⟨xm, xn⟩ := look_name hx
  obtain ⟨a, b, rfl⟩ := List.append_of_mem xm
  have hne : ∀ y ∈ a ++ b, y.name ≠ x.name := by
    unfold Uq at hu
    rw [List.pairwise_append, List.pairwise_cons] at hu
    intro y hy
    rcases List.mem_append.1 hy with hy | hy
    · exact hu.2.2 y hy x List.mem_cons_self
    · exact (hu.2.1.1 y hy).symm
  refine ⟨a, b, rfl, ?_, hne⟩
  unfold delL
  rw [List.filter_append, List.filter_cons, if_neg (by rw [decide_eq_true xn]; decide)]
  rw [List.filter_eq_self.2, List.filter_eq_self.2]
  · intro y hy
    have := hne y (List.mem_append_right _ hy)
    rw [xn] at this
    rw [decide_eq_false this]; rfl
  · intro y hy
    have := hne y (List.mem_append_left _ hy)
    rw [xn] at this
    rw [decide_eq_false this]; rfl
theorem below_nil {l : List I12} {s : ByteArray} : belowI l s = [] ↔ ∀ y ∈ l, y.parent ≠ s := by
  unfold belowI
  rw [List.map_eq_nil_iff, List.filter_eq_nil_iff]
  simp
theorem del_right {l : List I12} (h : RT l) {s : ByteArray} {x : I12} (hx : look l s = some x) (hk : ∀ y ∈ l, y.parent ≠ s) (ho : x.own = z3) : RT (delL l s) := by
  obtain ⟨a, b, rfl, e, hne⟩ := del_split h.srt.uq hx
  obtain ⟨xm, xn⟩ := look_name hx
  rw [e]
  have hs0 : x.sub = z3 := by
    have := (two_iff.1 (h.two x xm)).1
    rw [kid_none x.name _ (fun y hy => by rw [xn]; exact hk y hy), ho] at this
    rw [← this]; rfl
  have hlen : (a ++ x :: b).length = (a ++ b).length + 1 := by simp; omega
  have hpar : ∀ y ∈ a ++ b, y.parent ≠ x.name := fun y hy => by rw [xn]; exact hk y (mem_ins.2 (.inr hy))
  refine ⟨by have := h.len; omega, ?_, fun y hy => ?_, fun y hy => ?_⟩
  · have h1 := h.srt
    unfold Srt at h1 ⊢
    rw [List.pairwise_append, List.pairwise_cons] at h1
    rw [List.pairwise_append]
    exact ⟨h1.1, h1.2.1.2, fun y hy z hz => h1.2.2 y hy z (List.mem_cons_of_mem _ hz)⟩
  · obtain ⟨g1, g2, g3, g4, g5, g6, g7⟩ := one_iff.1 (h.one y (mem_ins.2 (.inr hy)))
    refine one_iff.2 ⟨g1, g2, g3, ?_, g5, g6, g7⟩
    rcases g4 with g4 | ⟨z, hz, ez⟩
    · exact .inl g4
    · rcases mem_ins.1 hz with rfl | hz
      · exact absurd ez.symm (hpar y hy)
      · exact .inr ⟨z, hz, ez⟩
  · obtain ⟨t1, t2⟩ := two_iff.1 (h.two y (mem_ins.2 (.inr hy)))
    refine two_iff.2 ⟨?_, ?_⟩
    · rw [← t1, kid_app, kid_app, kidS, hs0]
      split
      · rw [z_addV]
      · rfl
    · have e2 : ∀ n, upF (a ++ x :: b) n y.name = upF (a ++ b) n y.name := fun n => upF_ins hpar n y.name (hne y hy).symm
      refine ends_up ⟨(a ++ x :: b).length + 1, ?_⟩
      rw [← e2]
      unfold upI at t2; omega
theorem del_ok {l : List I12} (h : RT l) {s : ByteArray} {ver : Int} (h0 : delE l s ver = 0) : RT (delL l s) := by
  unfold delE at h0
  split at h0
  · rename_i g2; exact absurd h0 g2
  · rename_i g2
    obtain ⟨x, hx, e⟩ := old_look (Decidable.not_not.1 g2)
    rw [e] at h0
    split at h0
    · cases h0
    · rename_i g3
      rw [Bool.not_eq_true, Bool.or_eq_false_iff, Bool.not_eq_false', Bool.not_eq_false', List.isEmpty_iff, eqV_iff] at g3
      exact del_right h hx (below_nil.1 g3.1) g3.2
end Go.Proofs.Ytmpakgabehplbaa
namespace Go.Proofs.Ytmpakgabehplbaa
open Go.RowKit
set_option linter.unusedVariables false
set_option linter.unusedSimpArgs false
def negV (v : V3) : V3 := ⟨-v.c, -v.m, -v.p⟩
theorem add_neg (a b : V3) : addV a (negV b) = subV a b := by simp only [addV, negV, subV, V3.mk.injEq]; omega
theorem add_sub_same (a b : V3) : addV (addV a b) (negV b) = a := by cases a; simp only [addV, negV, V3.mk.injEq]; omega
/-- Letting out is letting less in. -/
def relL (l : List I12) (s : ByteArray) (v : V3) : List I12 := admL l s (negV v)
def ownAt (l : List I12) (s : ByteArray) : V3 := match look l s with | some y => y.own | none => z3
theorem ownAt_at {l : List I12} {s : ByteArray} {y : I12} (h : look l s = some y) : ownAt l s = y.own := by unfold ownAt; rw [h]
/-- What a Release says. -/
def relE (l : List I12) (s : ByteArray) (v : V3) : Nat := if mayV v = false then 1 else if upI l s = [] then 2 else if leV v (ownAt l s) = false then 1 else 0
theorem rel_len (l : List I12) (s : ByteArray) (v : V3) : (relL l s v).length = l.length := List.length_map _
theorem up_look {l : List I12} {s : ByteArray} (h : upI l s ≠ []) : ∃ y, look l s = some y := by
  cases hs : look l s with
  | none => exact absurd (upF_lnone hs _) h
  | some y => exact ⟨y, rfl⟩
theorem rel_right {l : List I12} (h : RT l) {s : ByteArray} {v : V3} (hv : mayV v = true) {y : I12} (hy : look l s = some y) (hle : leV v y.own = true) : RT (relL l s v) := by
  obtain ⟨ym, yn⟩ := look_name hy
  have hv' := may_bounds hv
  have hys := le_iff.1 (le_trans hle (own_sub h ym))
  have yo := may_bounds ((one_iff.1 (h.one y ym)).2.2.1)
  have hle' := le_iff.1 hle
  have hge : ∀ x ∈ l, x.name ∈ upI l s → leV v x.sub = true := by
    intro x hx hm
    rw [← yn] at hm
    obtain ⟨z, hz, e, hl⟩ := sub_up h (l.length + 1) y ym x.name hm
    have h1 := look_mem h.srt.uq hz
    rw [e, look_mem h.srt.uq hx] at h1
    rw [Option.some.inj h1]
    exact le_trans (le_trans hle (own_sub h ym)) hl
  have hsub : ∀ x ∈ l, leV (admF (upI l s) s (negV v) x).sub x.lim = true ∧ mayV (admF (upI l s) s (negV v) x).sub = true := by
    intro x hx
    obtain ⟨-, g2, -, -, -, g6, g7⟩ := one_iff.1 (h.one x hx)
    show leV (if x.name ∈ upI l s then addV x.sub (negV v) else x.sub) x.lim = true ∧ mayV (if x.name ∈ upI l s then addV x.sub (negV v) else x.sub) = true
    split
    · rename_i hm
      have e0 := le_iff.1 (hge x hx hm)
      have e1 := le_iff.1 g6
      have e3 := may_bounds g7
      refine ⟨le_iff.2 ?_, may_iff.2 ?_⟩
      · simp only [addV, negV]; omega
      · simp only [addV, negV]; omega
    · exact ⟨g6, g7⟩
  unfold relL admL
  refine ⟨by rw [List.length_map]; exact h.len, List.pairwise_map.2 h.srt, fun x' hx' => ?_, fun x' hx' => ?_⟩
  · obtain ⟨x, hx, rfl⟩ := List.mem_map.1 hx'
    obtain ⟨g1, g2, g3, g4, g5, g6, g7⟩ := one_iff.1 (h.one x hx)
    obtain ⟨k1, k2⟩ := hsub x hx
    refine one_iff.2 ⟨g1, g2, ?_, ?_, g5, k1, k2⟩
    · have e3 := may_bounds g3
      refine may_iff.2 ?_
      show (0 ≤ (if x.name = s then addV x.own (negV v) else x.own).c ∧ (if x.name = s then addV x.own (negV v) else x.own).c ≤ 1099511627776) ∧ (0 ≤ (if x.name = s then addV x.own (negV v) else x.own).m ∧ (if x.name = s then addV x.own (negV v) else x.own).m ≤ 1099511627776) ∧ (0 ≤ (if x.name = s then addV x.own (negV v) else x.own).p ∧ (if x.name = s then addV x.own (negV v) else x.own).p ≤ 1099511627776)
      split
      · rename_i e
        have h1 := look_mem h.srt.uq hx
        rw [e, hy] at h1
        obtain rfl := Option.some.inj h1
        simp only [addV, negV]; omega
      · omega
    · rcases g4 with g4 | ⟨y, hy, e⟩
      · exact .inl g4
      · exact .inr ⟨_, List.mem_map.2 ⟨y, hy, rfl⟩, e⟩
  · obtain ⟨x, hx, rfl⟩ := List.mem_map.1 hx'
    refine two_iff.2 ⟨adm_sum h s (negV v) hx, ?_⟩
    rw [upI_map (f := admF (upI l s) s (negV v)) (fun _ => rfl) (fun _ => rfl), List.length_map]
    exact h.up _
theorem rel_ok {l : List I12} (h : RT l) {s : ByteArray} {v : V3} (h0 : relE l s v = 0) : RT (relL l s v) := by
  unfold relE at h0
  split at h0
  · cases h0
  · rename_i g1
    split at h0
    · cases h0
    · rename_i g2
      split at h0
      · cases h0
      · rename_i g3
        obtain ⟨y, hy⟩ := up_look g2
        rw [ownAt_at hy] at g3
        simp only [Bool.not_eq_false] at g1 g3
        exact rel_right h g1 hy g3
theorem up_adm (l : List I12) (s t : ByteArray) (v : V3) : upI (admL l s v) t = upI l t := upI_map (f := admF (upI l s) s v) (fun _ => rfl) (fun _ => rfl) l t
theorem look_adm (l : List I12) (s t : ByteArray) (v : V3) : look (admL l s v) t = (look l t).map (admF (upI l s) s v) := look_map (f := admF (upI l s) s v) (fun _ => rfl) l t
/-- What was let in and is let out: all is as it was. -/
theorem rel_adm (l : List I12) (s : ByteArray) (v : V3) : relL (admL l s v) s v = l := by
  unfold relL
  rw [show admL (admL l s v) s (negV v) = (admL l s v).map (admF (upI l s) s (negV v)) from by
    show List.map (admF (upI (admL l s v) s) s (negV v)) (admL l s v) = _
    rw [up_adm]]
  unfold admL
  rw [List.map_map]
  refine (List.map_congr_left fun x _ => ?_).trans (List.map_id l)
  show (⟨x.name, x.parent, x.lim, if x.name = s then addV (if x.name = s then addV x.own v else x.own) (negV v) else (if x.name = s then addV x.own v else x.own), if x.name ∈ upI l s then addV (if x.name ∈ upI l s then addV x.sub v else x.sub) (negV v) else (if x.name ∈ upI l s then addV x.sub v else x.sub), x.ver⟩ : I12) = id x
  by_cases a : x.name = s
  · by_cases b : x.name ∈ upI l s
    · simp only [if_pos a, if_pos b, add_sub_same, id]
    · simp only [if_pos a, if_neg b, add_sub_same, id]
  · by_cases b : x.name ∈ upI l s
    · simp only [if_neg a, if_pos b, add_sub_same, id]
    · simp only [if_neg a, if_neg b, id]
/-- What was let in may be let out. -/
theorem rel_back {l : List I12} (h : RT l) {x : I12} (hx : x ∈ l) {v : V3} (hv : mayV v = true) : relE (admL l x.name v) x.name v = 0 := by
  unfold relE
  rw [if_neg (by rw [hv]; decide), if_neg (by rw [up_adm, up_cons h hx]; simp), if_neg]
  have hl : look (admL l x.name v) x.name = some (admF (upI l x.name) x.name v x) := by
    rw [look_adm, look_mem h.srt.uq hx]; rfl
  rw [ownAt_at hl, Bool.not_eq_false]
  have e := may_bounds ((one_iff.1 (h.one x hx)).2.2.1)
  refine le_iff.2 ?_
  show v.c ≤ (if x.name = x.name then addV x.own v else x.own).c ∧ v.m ≤ (if x.name = x.name then addV x.own v else x.own).m ∧ v.p ≤ (if x.name = x.name then addV x.own v else x.own).p
  rw [if_pos rfl]
  simp only [addV]
  omega
/-- More than it takes alone may not be let out. -/
theorem rel_more {l : List I12} (h : RT l) {x : I12} (hx : x ∈ l) : relE l x.name ⟨0, 0, x.own.p + 1⟩ = 1 := by
  unfold relE
  split
  · rfl
  · rw [if_neg (by rw [up_cons h hx]; simp), if_pos]
    rw [ownAt_at (look_mem h.srt.uq hx), ← Bool.not_eq_true, le_iff]
    simp only
    omega
end Go.Proofs.Ytmpakgabehplbaa
namespace Go.Proofs.Ytmpakgabehplbaa
open Go.RowKit
set_option linter.unusedVariables false
set_option linter.unusedSimpArgs false
def LimB (l : List I12) : Prop := ∀ x ∈ l, x.lim.c ≤ 275 ∧ x.lim.m ≤ 275 ∧ x.lim.p ≤ 275
theorem LimB.create {l : List I12} (h : LimB l) (s p : ByteArray) {a : Nat} (ha : a ≤ 255) : LimB (createL l s p (limM a)) := by
  intro x hx
  unfold createL at hx
  rcases mem_ins.1 hx with rfl | hx
  · show (20 + (a : Int)) ≤ 275 ∧ (20 + (a : Int)) ≤ 275 ∧ (20 + (a : Int)) ≤ 275
    omega
  · rw [List.takeWhile_append_dropWhile] at hx
    exact h x hx
theorem LimB.adm {l : List I12} (h : LimB l) (s : ByteArray) (v : V3) : LimB (admL l s v) := by
  intro x hx
  unfold admL at hx
  obtain ⟨y, hy, rfl⟩ := List.mem_map.1 hx
  exact h y hy
theorem LimB.step {l : List I12} (h : LimB l) (n b : Nat) {a : Nat} (ha : a ≤ 255) : LimB (stepM l n a b) := by
  unfold stepM
  split
  · unfold admM
    split
    · exact (h.create _ _ ha).adm _ _
    · exact h.create _ _ ha
  · exact h
theorem make_lim : ∀ (ns : List Nat) (l : List I12), (∀ x ∈ ns, x ≤ 255) → LimB l → LimB (makeT ns l)
  | n :: a :: b :: r, l, hr, h => by
    rw [makeT]
    split
    · exact make_lim r _ (fun x hx => hr x (by simp [hx])) (h.step n b (hr a (by simp)))
    · exact h
  | [], l, _, h => h
  | [n], l, _, h => h
  | [n, a], l, _, h => h
theorem up_ne {l : List I12} (h : RT l) {x : I12} (hx : x ∈ l) : upI l x.name ≠ [] := by rw [up_cons h hx]; simp
theorem free_le {l : List I12} {s t : ByteArray} (ht : t ∈ upI l s) {y : I12} (hy : look l t = some y) : leV (roomV l s) (freeV y) = true := by
  have := roomU_le l (upI l s) t ht
  rwa [freeA_at hy] at this
theorem fits_room {l : List I12} (h : RT l) {x : I12} (hx : x ∈ l) : admE l x.name (roomV l x.name) = 0 := by
  unfold admE
  rw [if_neg (by rw [fit_may (room_fit h _)]; decide), if_neg (up_ne h hx), if_neg]
  rw [Bool.not_eq_false]
  unfold roomB
  rw [List.all_eq_true]
  intro y hy
  by_cases hm : y.name ∈ upI l x.name
  · have := le_iff.1 (free_le hm (look_mem h.srt.uq hy))
    rw [show leV (addV y.sub (roomV l x.name)) y.lim = true from le_iff.2 (by
      unfold freeV subV at this
      unfold addV
      simp only at this ⊢
      omega)]
    simp
  · rw [decide_eq_false hm]; rfl
/-- One more of a resource. -/
def moreV (v : V3) : Nat → V3
  | 0 => ⟨v.c + 1, v.m, v.p⟩
  | 1 => ⟨v.c, v.m + 1, v.p⟩
  | _ => ⟨v.c, v.m, v.p + 1⟩
theorem fits_more {l : List I12} (h : RT l) (hl : LimB l) {x : I12} (hx : x ∈ l) (q : Nat) : admE l x.name (moreV (roomV l x.name) q) = 12 := by
  have hf := room_fit h x.name
  obtain ⟨⟨t1, h1, e1⟩, ⟨t2, h2, e2⟩, ⟨t3, h3, e3⟩⟩ := roomU_at l (up_ne h hx)
  have key : ∀ t, t ∈ upI l x.name → ∃ y ∈ l, y.name = t ∧ freeA l t = freeV y := fun t ht => by
    obtain ⟨k, y, -, hy, hlk⟩ := up_found ht
    exact ⟨y, List.mem_of_getElem? hy, (look_name hlk).2, freeA_at hlk⟩
  obtain ⟨y1, m1, n1, f1⟩ := key t1 h1
  obtain ⟨y2, m2, n2, f2⟩ := key t2 h2
  obtain ⟨y3, m3, n3, f3⟩ := key t3 h3
  have b1 := hl y1 m1
  have b2 := hl y2 m2
  have b3 := hl y3 m3
  have s1 := may_bounds (h.may y1 m1)
  have s2 := may_bounds (h.may y2 m2)
  have s3 := may_bounds (h.may y3 m3)
  rw [f1] at e1; rw [f2] at e2; rw [f3] at e3
  have r1 : (roomV l x.name).c = y1.lim.c - y1.sub.c := e1
  have r2 : (roomV l x.name).m = y2.lim.m - y2.sub.m := e2
  have r3 : (roomV l x.name).p = y3.lim.p - y3.sub.p := e3
  generalize roomV l x.name = v at *
  unfold FitV at hf
  have hm : mayV (moreV v q) = true := by
    rw [may_iff]
    match q with
    | 0 => simp only [moreV]; omega
    | 1 => simp only [moreV]; omega
    | q + 2 => simp only [moreV]; omega
  unfold admE
  rw [if_neg (by rw [hm]; decide), if_neg (up_ne h hx), if_pos]
  have bad : ∃ y ∈ l, y.name ∈ upI l x.name ∧ leV (addV y.sub (moreV v q)) y.lim = false := by
    match q with
    | 0 => exact ⟨y1, m1, by rw [n1]; exact h1, Bool.eq_false_iff.2 (fun e => by
        have := le_iff.1 e
        simp only [addV, moreV] at this
        omega)⟩
    | 1 => exact ⟨y2, m2, by rw [n2]; exact h2, Bool.eq_false_iff.2 (fun e => by
        have := le_iff.1 e
        simp only [addV, moreV] at this
        omega)⟩
    | q + 2 => exact ⟨y3, m3, by rw [n3]; exact h3, Bool.eq_false_iff.2 (fun e => by
        have := le_iff.1 e
        simp only [addV, moreV] at this
        omega)⟩
  obtain ⟨y, hy, hin, hle⟩ := bad
  refine Bool.eq_false_iff.2 fun e => ?_
  have := List.all_eq_true.1 e y hy
  rw [hle, decide_eq_true hin] at this
  cases this
theorem tight_ne {l : List I12} (h : RT l) {x : I12} (hx : x ∈ l) : tightL l x.name ≠ [] := by
  obtain ⟨⟨t, ht, e⟩, -, -⟩ := roomU_at l (up_ne h hx)
  have : t ∈ tightL l x.name := by
    unfold tightL
    rw [List.mem_filter]
    refine ⟨ht, ?_⟩
    unfold eq1
    rw [decide_eq_true (show (freeA l t).c = (roomV l x.name).c from e.symm)]; rfl
  intro e
  rw [e] at this; cases this
/-- Where it is tight some limit is reached. -/
theorem tight_full {l : List I12} (h : RT l) {s t : ByteArray} (ht : t ∈ tightL l s) : ∃ (k : Nat) (y : I12), iIdx (admL l s (roomV l s)) t = some k ∧ (admL l s (roomV l s))[k]? = some y ∧ (y.sub.c = y.lim.c ∨ y.sub.m = y.lim.m ∨ y.sub.p = y.lim.p) := by
  unfold tightL at ht
  rw [List.mem_filter] at ht
  obtain ⟨ht, he⟩ := ht
  obtain ⟨k, x, hk, hx, hlk⟩ := up_found ht
  have hn := (look_name hlk).2
  refine ⟨k, admF (upI l s) s (roomV l s) x, ?_, ?_, ?_⟩
  · unfold admL
    rw [idx_map (f := admF (upI l s) s (roomV l s)) (fun _ => rfl)]; exact hk
  · unfold admL
    rw [List.getElem?_map, hx]; rfl
  · rw [freeA_at hlk] at he
    unfold eq1 at he
    simp only [Bool.or_eq_true, decide_eq_true_eq] at he
    have hs : (admF (upI l s) s (roomV l s) x).sub = addV x.sub (roomV l s) := by
      show (if x.name ∈ upI l s then addV x.sub (roomV l s) else x.sub) = _
      rw [if_pos (by rw [hn]; exact ht)]
    rw [hs]
    show (addV x.sub (roomV l s)).c = x.lim.c ∨ (addV x.sub (roomV l s)).m = x.lim.m ∨ (addV x.sub (roomV l s)).p = x.lim.p
    unfold freeV subV at he
    unfold addV
    simp only at he ⊢
    omega
end Go.Proofs.Ytmpakgabehplbaa
namespace Go.Proofs.Ytmpakgabehplbaa
open Go.RowKit
set_option linter.unusedVariables false
set_option linter.unusedSimpArgs false
/-- Who counts is said by a node's parent: the share is the sum of those. -/
theorem share_kids {l : List I12} {ns : List ByteArray} {s : ByteArray} (h : ∀ x ∈ l, (inB ns x.name && !underB l ns x) = decide (x.parent = s)) : ∀ k, k ≤ l.length → shareTo l ns k = kidS (l.take k) s
  | 0, _ => rfl
  | k + 1, hk => by
    have hx := List.getElem?_eq_getElem (show k < l.length by omega)
    rw [shareTo_step hx, kidS_step hx, share_kids h k (by omega), h _ (List.getElem_mem (show k < l.length by omega))]
    simp only [decide_eq_true_eq]
theorem under_up {l : List I12} (h : RT l) {x : I12} (hx : x ∈ l) (ns : List ByteArray) : underB l ns x = (upI l x.parent).any fun t => inB ns t := by
  unfold underB
  rw [up_cons h hx, List.tail_cons]
theorem share_all {l : List I12} (h : RT l) {ns : List ByteArray} (hn : ∀ x ∈ l, x.name ∈ ns) : shareV l ns = sumF (fun x => x.own) l := by
  unfold shareV
  rw [share_kids (s := ⟨#[]⟩) (fun x hx => ?_) _ (Nat.le_refl _), List.take_length, own_top h]
  rw [inB_iff.2 (hn x hx), Bool.true_and, under_up h hx]
  rcases (one_iff.1 (h.one x hx)).2.2.2.1 with e | ⟨y, hy, e⟩
  · rw [e, up_root h]; simp
  · have hne : x.parent ≠ ⟨#[]⟩ := by
      intro e2
      have := (one_iff.1 (h.one y hy)).1
      rw [e, e2] at this
      revert this; decide
    rw [decide_eq_false hne, ← e, up_cons h hy, List.any_cons, inB_iff.2 (hn y hy)]
    rfl
theorem share_none {l : List I12} {ns : List ByteArray} (hn : ∀ x ∈ l, x.name ∉ ns) : ∀ k, k ≤ l.length → shareTo l ns k = z3
  | 0, _ => rfl
  | k + 1, hk => by
    have hx := List.getElem?_eq_getElem (show k < l.length by omega)
    have hf : inB ns (l[k]'(by omega)).name = false := by
      rw [← Bool.not_eq_true, inB_iff]; exact hn _ (List.getElem_mem _)
    rw [shareTo_step hx, share_none hn k (by omega), hf]
    rfl
theorem up_par {l : List I12} : ∀ n s t, t ∈ upF l n s → (upF l n s).length < n → ∀ y z, look l t = some y → look l y.parent = some z → y.parent ∈ upF l n s
  | 0, _, _, _, h, _, _, _, _ => by simp at h
  | n + 1, s, t, ht, hl, y, z, hy, hz => by
    cases hs : look l s with
    | none => rw [upF_lnone hs] at ht; cases ht
    | some x =>
      rw [upF_lsome hs] at ht hl ⊢
      rw [List.length_cons] at hl
      have hn : 0 < n := by omega
      rcases List.mem_cons.1 ht with e | e
      · subst e
        rw [hs] at hy
        obtain rfl := Option.some.inj hy
        obtain ⟨m, rfl⟩ := Nat.exists_eq_add_of_lt hn
        rw [show 0 + m + 1 = m + 1 by omega, upF_lsome hz]
        simp
      · exact List.mem_cons_of_mem _ (up_par n x.parent t e (by omega) y z hy hz)
/-- Nobody is above itself. -/
theorem up_not {l : List I12} (h : RT l) {x : I12} (hx : x ∈ l) : x.name ∉ upI l x.parent := by
  have h2 := (two_iff.1 (h.two x hx)).2
  have hnd := upF_nodup (l.length + 1) x.name (by show (upI l x.name).length < _; omega)
  rw [show upF l (l.length + 1) x.name = upI l x.name from rfl, up_cons h hx, List.nodup_cons] at hnd
  exact hnd.1
theorem share_cond {l : List I12} (h : RT l) {x : I12} (hx : x ∈ l) {y : I12} (hy : y ∈ l) : (inB (belowI l x.name ++ [x.name, x.name]) y.name && !underB l (belowI l x.name ++ [x.name, x.name]) y) = decide (y.name = x.name) := by
  have hmem : ∀ t, t ∈ belowI l x.name ++ [x.name, x.name] ↔ (∃ z ∈ l, z.parent = x.name ∧ z.name = t) ∨ t = x.name := by
    intro t
    unfold belowI
    simp only [List.mem_append, List.mem_map, List.mem_filter, decide_eq_true_eq, List.mem_cons, List.not_mem_nil, or_false, or_self, and_assoc]
  rw [under_up h hy]
  by_cases e : y.name = x.name
  · have exy : y = x := by
      have h1 := look_mem h.srt.uq hy
      have h2 := look_mem h.srt.uq hx
      rw [e, h2] at h1
      exact (Option.some.inj h1).symm
    subst exy
    rw [inB_iff.2 ((hmem _).2 (Or.inr rfl)), decide_eq_true rfl, Bool.true_and]
    rw [show ((upI l y.parent).any fun t => inB (belowI l y.name ++ [y.name, y.name]) t) = false from ?_]
    · rfl
    rw [← Bool.not_eq_true, List.any_eq_true]
    rintro ⟨t, ht, hin⟩
    rcases (hmem t).1 (inB_iff.1 hin) with ⟨z, hz, hp, rfl⟩ | rfl
    · have hlt : (upI l y.parent).length < l.length + 1 := by
        have h2 := (two_iff.1 (h.two y hy)).2
        rw [up_cons h hy, List.length_cons] at h2
        omega
      have := up_par (l.length + 1) y.parent z.name ht hlt z y (look_mem h.srt.uq hz) (by rw [hp]; exact look_mem h.srt.uq hy)
      rw [hp] at this
      exact up_not h hy this
    · exact up_not h hy ht
  · rw [decide_eq_false e]
    by_cases hb : y.parent = x.name
    · rw [hb, up_cons h hx, List.any_cons, inB_iff.2 ((hmem _).2 (Or.inr rfl)), Bool.true_or, Bool.not_true, Bool.and_false]
    · have : inB (belowI l x.name ++ [x.name, x.name]) y.name = false := by
        rw [← Bool.not_eq_true, inB_iff, hmem]
        rintro (⟨z, hz, hp, e2⟩ | e2)
        · have h1 := look_mem h.srt.uq hy
          rw [← e2, look_mem h.srt.uq hz] at h1
          rw [Option.some.inj h1] at hp
          exact hb hp
        · exact e e2
      rw [this]; rfl
theorem share_one {l : List I12} {ns : List ByteArray} (hu : Uq l) {i : Nat} {x : I12} (hi : l[i]? = some x) (h : ∀ y ∈ l, (inB ns y.name && !underB l ns y) = decide (y.name = x.name)) : ∀ k, k ≤ l.length → shareTo l ns k = if i < k then x.sub else z3
  | 0, _ => rfl
  | k + 1, hk => by
    have hx := List.getElem?_eq_getElem (show k < l.length by omega)
    rw [shareTo_step hx, share_one hu hi h k (by omega), h _ (List.getElem_mem (show k < l.length by omega))]
    simp only [decide_eq_true_eq]
    by_cases e : (l[k]'(by omega)).name = x.name
    · have := uq_at hu hx hi e
      subst this
      rw [if_pos e, if_neg (by omega), if_pos (by omega), z_addV]
      rw [hx] at hi
      rw [Option.some.inj hi]
    · rw [if_neg e]
      have hne : i ≠ k := by
        rintro rfl
        rw [hx] at hi
        exact e (by rw [Option.some.inj hi])
      by_cases hik : i < k
      · rw [if_pos hik, if_pos (by omega)]
      · rw [if_neg hik, if_neg (by omega)]
/-- A node with those below it takes no more than alone. -/
theorem share_with {l : List I12} (h : RT l) {i : Nat} {x : I12} (hi : l[i]? = some x) : shareV l (belowI l x.name ++ [x.name, x.name]) = x.sub := by
  unfold shareV
  rw [share_one h.srt.uq hi (fun y hy => share_cond h (List.mem_of_getElem? hi) hy) _ (Nat.le_refl _), if_pos (List.getElem?_eq_some_iff.1 hi).1]
def OneB (l : List I12) : Prop := ∀ x ∈ l, x.name.size = 1
theorem OneB.create {l : List I12} (h : OneB l) {s : ByteArray} (p : ByteArray) (v : V3) (hs : s.size = 1) : OneB (createL l s p v) := by
  intro x hx
  unfold createL at hx
  rcases mem_ins.1 hx with rfl | hx
  · exact hs
  · rw [List.takeWhile_append_dropWhile] at hx
    exact h x hx
theorem OneB.adm {l : List I12} (h : OneB l) (s : ByteArray) (v : V3) : OneB (admL l s v) := by
  intro x hx
  unfold admL at hx
  obtain ⟨y, hy, rfl⟩ := List.mem_map.1 hx
  exact h y hy
theorem OneB.step {l : List I12} (h : OneB l) (n a b : Nat) : OneB (stepM l n a b) := by
  unfold stepM
  split
  · unfold admM
    split
    · exact (h.create _ _ rfl).adm _ _
    · exact h.create _ _ rfl
  · exact h
theorem make_one : ∀ (ns : List Nat) (l : List I12), OneB l → OneB (makeT ns l)
  | n :: a :: b :: r, l, h => by
    rw [makeT]
    split
    · exact make_one r _ (h.step n a b)
    · exact h
  | [], l, h => h
  | [n], l, h => h
  | [n, a], l, h => h
theorem share_noname {l : List I12} (h : OneB l) {s : ByteArray} (hs : s.size ≠ 1) : shareV l [s] = z3 :=
  share_none (fun x hx hm => by
    rw [List.mem_singleton] at hm
    exact hs (by rw [← hm]; exact h x hx)) _ (Nat.le_refl _)
theorem share_nil (l : List I12) : shareV l [] = z3 := share_none (fun x hx hm => by cases hm) _ (Nat.le_refl _)
theorem sumF_rev (f : I12 → V3) : ∀ l, sumF f l.reverse = sumF f l
  | [] => rfl
  | x :: r => by rw [List.reverse_cons, sumF_app, sumF_rev f r, sumF, sumF, sumF, addV_z, addV_comm]
theorem rev_at {l : List I12} {i : Nat} {x : I12} (hi : l[i]? = some x) : l.reverse[l.length - 1 - i]? = some x := by
  have h := (List.getElem?_eq_some_iff.1 hi).1
  rw [List.getElem?_reverse (by omega), show l.length - 1 - (l.length - 1 - i) = i by omega, hi]
end Go.Proofs.Ytmpakgabehplbaa
namespace Go.Proofs.Ytmpakgabehplbaa
open Go.RowKit
set_option linter.unusedVariables false
set_option linter.unusedSimpArgs false
theorem v3_eq {u v : V3} (h1 : u.c = v.c) (h2 : u.m = v.m) (h3 : u.p = v.p) : u = v := by cases u; cases v; simp_all
def reP (s p : ByteArray) (x : I12) : I12 := ⟨x.name, if x.name = s then p else x.parent, x.lim, x.own, x.sub, if x.name = s then x.ver + 1 else x.ver⟩
def movS (was up : List ByteArray) (d : V3) (y : I12) : V3 := if y.name ∈ up then addV (if y.name ∈ was then addV y.sub (negV d) else y.sub) d else if y.name ∈ was then addV y.sub (negV d) else y.sub
def movF (was up : List ByteArray) (d : V3) (s p : ByteArray) (y : I12) : I12 := ⟨y.name, if y.name = s then p else y.parent, y.lim, y.own, movS was up d y, if y.name = s then y.ver + 1 else y.ver⟩
def movL (l : List I12) (s p : ByteArray) : List I12 := l.map (movF (upI l (itAt l s).parent) (upI l p) (itAt l s).sub s p)
theorem movF_steps (was up : List ByteArray) (d : V3) (s p : ByteArray) (y : I12) : movF was up d s p y = reP s p (admS up d (admS was (negV d) y)) := rfl
def movR (l : List I12) (s p : ByteArray) : Bool := l.all fun y => !(decide (y.name ∈ upI l p)) || leV (movS (upI l (itAt l s).parent) (upI l p) (itAt l s).sub y) y.lim
def movE (l : List I12) (s p : ByteArray) (ver : Int) : Nat := if oldE l s ver ≠ 0 then oldE l s ver else if p ≠ ⟨#[]⟩ ∧ upI l p = [] then 2 else if s ∈ upI l p then 10 else if 9007199254740992 ≤ (itAt l s).ver then 4 else if movR l s p = false then 12 else 0
theorem kid_admS (us : List ByteArray) (v : V3) (t : ByteArray) : ∀ l, kidS (l.map (admS us v)) t = addV (kidS l t) (timesV (cnt l us t) v)
  | [] => (addV_z _).symm
  | y :: r => by
    rw [List.map_cons, kidS, kidS, cnt_cons, kid_admS us v t r]
    show (if y.parent = t then addV (if y.name ∈ us then addV y.sub v else y.sub) _ else _) = _
    by_cases h1 : y.parent = t
    · rw [if_pos h1, if_pos h1]
      by_cases h2 : y.name ∈ us
      · rw [if_pos h2, if_pos ⟨h1, h2⟩, Nat.add_comm, timesV, addV_assoc, addV_assoc, addV_left v]
      · rw [if_neg h2, if_neg fun h => h2 h.2, Nat.zero_add, addV_assoc]
    · rw [if_neg h1, if_neg h1, if_neg fun h => h1 h.1, Nat.zero_add]
theorem cnt_map {f : I12 → I12} (hn : ∀ x, (f x).name = x.name) (hp : ∀ x, (f x).parent = x.parent) (us : List ByteArray) (t : ByteArray) : ∀ l, cnt (l.map f) us t = cnt l us t
  | [] => rfl
  | y :: r => by rw [List.map_cons, cnt_cons, cnt_cons, hn, hp, cnt_map hn hp us t r]
theorem reP_id {s p : ByteArray} : ∀ {l : List I12}, (∀ y ∈ l, y.name ≠ s) → l.map (reP s p) = l
  | [], _ => rfl
  | y :: r, h => by
    rw [List.map_cons, reP_id fun z hz => h z (List.mem_cons_of_mem _ hz)]
    have := h y List.mem_cons_self
    unfold reP
    rw [if_neg this, if_neg this]
theorem kid_reP {s p : ByteArray} (t : ByteArray) {x : I12} (hn : x.name = s) : ∀ {l : List I12}, Uq l → x ∈ l → kidS (l.map (reP s p)) t = addV (addV (kidS l t) (if x.parent = t then negV x.sub else z3)) (if p = t then x.sub else z3)
  | [], _, h => by cases h
  | y :: r, hu, hx => by
    unfold Uq at hu
    rw [List.pairwise_cons] at hu
    rw [List.map_cons, kidS, kidS]
    by_cases e : y.name = s
    · have hxy : x = y := by
        rcases List.mem_cons.1 hx with h | h
        · exact h
        · exact absurd (e.trans hn.symm) (hu.1 x h)
      subst hxy
      rw [reP_id fun z hz e2 => hu.1 z hz (hn.trans e2.symm)]
      show (if (if x.name = s then p else x.parent) = t then addV x.sub (kidS r t) else kidS r t) = _
      rw [if_pos hn]
      by_cases h1 : p = t
      · by_cases h2 : x.parent = t
        · rw [if_pos h1, if_pos h2, if_pos h2, if_pos h1]; apply v3_eq <;> simp only [addV, negV] <;> omega
        · rw [if_pos h1, if_neg h2, if_neg h2, if_pos h1, addV_z, addV_comm]
      · by_cases h2 : x.parent = t
        · rw [if_neg h1, if_pos h2, if_pos h2, if_neg h1, addV_z]; apply v3_eq <;> simp only [addV, negV] <;> omega
        · rw [if_neg h1, if_neg h2, if_neg h2, if_neg h1, addV_z, addV_z]
    · have hxr : x ∈ r := by
        rcases List.mem_cons.1 hx with h | h
        · subst h; exact absurd hn e
        · exact h
      rw [kid_reP t hn hu.2 hxr]
      show (if (if y.name = s then p else y.parent) = t then addV y.sub _ else _) = _
      rw [if_neg e]
      by_cases h1 : y.parent = t
      · rw [if_pos h1, if_pos h1, ← addV_assoc, ← addV_assoc]
      · rw [if_neg h1, if_neg h1]
/-- A way up that does not come by s is as it was. -/
theorem upF_avoid {l : List I12} {f : I12 → I12} {s : ByteArray} (hn : ∀ x, (f x).name = x.name) (hp : ∀ x, x.name ≠ s → (f x).parent = x.parent) : ∀ n t, s ∉ upF l n t → upF (l.map f) n t = upF l n t
  | 0, t, _ => rfl
  | n + 1, t, h => by
    rw [upF_look, look_map hn]
    cases hl : look l t with
    | none => rw [upF_lnone hl]; rfl
    | some y =>
      rw [upF_lsome hl] at h ⊢
      have h1 := (look_name hl).2
      have h2 : y.name ≠ s := fun e => h (by rw [← e, h1]; exact List.mem_cons_self)
      show (f y).name :: upF (l.map f) n (f y).parent = _
      rw [hn, hp y h2, upF_avoid hn hp n y.parent (fun hm => h (List.mem_cons_of_mem _ hm)), h1]
theorem mov_ends {l : List I12} {f : I12 → I12} {s p : ByteArray} (hn : ∀ x, (f x).name = x.name) (hp : ∀ x, x.name ≠ s → (f x).parent = x.parent) (hs : ∀ x, x.name = s → (f x).parent = p) (hc : s ∉ upI l p) (hl : (upI l p).length ≤ l.length) : ∀ n t, (upF l n t).length < n → endsT (l.map f) t
  | 0, t, h => by omega
  | n + 1, t, h => by
    cases ht : look l t with
    | none =>
      refine ⟨1, ?_⟩
      rw [upF_lnone (by rw [look_map hn, ht]; rfl)]
      exact Nat.zero_lt_one
    | some y =>
      have h1 := (look_name ht).2
      have ht' : look (l.map f) t = some (f y) := by rw [look_map hn, ht]; rfl
      by_cases e : y.name = s
      · refine ⟨l.length + 1 + 1, ?_⟩
        rw [upF_lsome ht', hs y e, upF_avoid hn hp _ _ hc, List.length_cons]
        unfold upI at hl; omega
      · rw [upF_lsome ht, List.length_cons] at h
        obtain ⟨m, hm⟩ := mov_ends hn hp hs hc hl n y.parent (by omega)
        refine ⟨m + 1, ?_⟩
        rw [upF_lsome ht', hp y e, List.length_cons]; omega
theorem mov_arith {A B C E : Prop} [Decidable A] [Decidable B] [Decidable C] [Decidable E] {n1 n2 : Nat} {o K S d : V3} (c1 : (if B then 1 else 0) + n1 = if A then 1 else 0) (c2 : (if E then 1 else 0) + n2 = if C then 1 else 0) (tc : o.c + K.c = S.c) (tm : o.m + K.m = S.m) (tp : o.p + K.p = S.p) :
    addV o (addV (addV (addV (addV K (timesV n1 (negV d))) (timesV n2 d)) (if B then negV d else z3)) (if E then d else z3)) = if C then addV (if A then addV S (negV d) else S) d else if A then addV S (negV d) else S := by
  have t1 : ∀ v : V3, timesV 1 v = v := fun v => by rw [show (1 : Nat) = 0 + 1 from rfl, timesV, timesV, addV_z]
  have t0 : ∀ v : V3, timesV 0 v = z3 := fun v => rfl
  have h1 : (A ∧ ((B ∧ timesV n1 (negV d) = z3) ∨ (¬ B ∧ timesV n1 (negV d) = negV d))) ∨ (¬ A ∧ ¬ B ∧ timesV n1 (negV d) = z3) := by
    by_cases a : A <;> by_cases b : B
    · rw [if_pos a, if_pos b] at c1
      obtain rfl : n1 = 0 := by omega
      exact .inl ⟨a, .inl ⟨b, t0 _⟩⟩
    · rw [if_pos a, if_neg b] at c1
      obtain rfl : n1 = 1 := by omega
      exact .inl ⟨a, .inr ⟨b, t1 _⟩⟩
    · rw [if_neg a, if_pos b] at c1; omega
    · rw [if_neg a, if_neg b] at c1
      obtain rfl : n1 = 0 := by omega
      exact .inr ⟨a, b, t0 _⟩
  have h2 : (C ∧ ((E ∧ timesV n2 d = z3) ∨ (¬ E ∧ timesV n2 d = d))) ∨ (¬ C ∧ ¬ E ∧ timesV n2 d = z3) := by
    by_cases a : C <;> by_cases b : E
    · rw [if_pos a, if_pos b] at c2
      obtain rfl : n2 = 0 := by omega
      exact .inl ⟨a, .inl ⟨b, t0 _⟩⟩
    · rw [if_pos a, if_neg b] at c2
      obtain rfl : n2 = 1 := by omega
      exact .inl ⟨a, .inr ⟨b, t1 _⟩⟩
    · rw [if_neg a, if_pos b] at c2; omega
    · rw [if_neg a, if_neg b] at c2
      obtain rfl : n2 = 0 := by omega
      exact .inr ⟨a, b, t0 _⟩
  clear c1 c2 t0 t1
  rcases h1 with ⟨a, ⟨b, e1⟩ | ⟨b, e1⟩⟩ | ⟨a, b, e1⟩ <;> rcases h2 with ⟨c, ⟨e, e2⟩ | ⟨e, e2⟩⟩ | ⟨c, e, e2⟩ <;> rw [e1, e2] <;> simp only [a, b, c, e, if_true, if_false] <;> apply v3_eq <;> simp only [addV, negV, z3] <;> omega
theorem mov_right {l : List I12} (h : RT l) {s p : ByteArray} {x : I12} (hx : look l s = some x) (hver : x.ver < 9007199254740992) (hp : p = ⟨#[]⟩ ∨ ∃ y ∈ l, y.name = p) (hc : s ∉ upI l p) (hr : ∀ y ∈ l, y.name ∈ upI l p → leV (movS (upI l x.parent) (upI l p) x.sub y) y.lim = true) : RT (l.map (movF (upI l x.parent) (upI l p) x.sub s p)) := by
  obtain ⟨xm, xn⟩ := look_name hx
  have key : ∀ y ∈ l, y.name = s → y = x := fun y hy e => by
    have := look_mem h.srt.uq hy
    rw [e, hx] at this
    exact (Option.some.inj this).symm
  have hsw : s ∉ upI l x.parent := by rw [← xn]; exact up_not h xm
  have hx7 := may_bounds ((one_iff.1 (h.one x xm)).2.2.2.2.2.2)
  have hge : ∀ y ∈ l, y.name ∈ upI l x.parent → leV x.sub y.sub = true := by
    intro y hy hm
    obtain ⟨z, hz, e, hl⟩ := sub_up h (l.length + 1) x xm y.name (by
      show y.name ∈ upI l x.name
      rw [up_cons h xm]; exact List.mem_cons_of_mem _ hm)
    have h1 := look_mem h.srt.uq hz
    rw [e, look_mem h.srt.uq hy] at h1
    rw [Option.some.inj h1]; exact hl
  have hsub : ∀ y ∈ l, leV (movS (upI l x.parent) (upI l p) x.sub y) y.lim = true ∧ mayV (movS (upI l x.parent) (upI l p) x.sub y) = true := by
    intro y hy
    obtain ⟨-, g2, -, -, -, g6, g7⟩ := one_iff.1 (h.one y hy)
    have e2 := may_bounds g2
    have e6 := le_iff.1 g6
    have e7 := may_bounds g7
    by_cases a : y.name ∈ upI l x.parent
    · have e1 := le_iff.1 (hge y hy a)
      by_cases c : y.name ∈ upI l p
      · have h1 := hr y hy c
        refine ⟨h1, may_iff.2 ?_⟩
        have h2 := le_iff.1 h1
        unfold movS at h2 ⊢
        rw [if_pos c, if_pos a] at h2 ⊢
        simp only [addV, negV] at h2 ⊢
        omega
      · unfold movS
        rw [if_neg c, if_pos a]
        refine ⟨le_iff.2 ?_, may_iff.2 ?_⟩ <;> simp only [addV, negV] <;> omega
    · by_cases c : y.name ∈ upI l p
      · have h1 := hr y hy c
        refine ⟨h1, may_iff.2 ?_⟩
        have h2 := le_iff.1 h1
        unfold movS at h2 ⊢
        rw [if_pos c, if_neg a] at h2 ⊢
        simp only [addV] at h2 ⊢
        omega
      · unfold movS
        rw [if_neg c, if_neg a]
        exact ⟨g6, g7⟩
  have hnd : ∀ q, (upF l (l.length + 1) q).length < l.length + 1 := fun q => by have := h.up q; unfold upI at this; omega
  refine ⟨by rw [List.length_map]; exact h.len, List.pairwise_map.2 h.srt, fun y' hy' => ?_, fun y' hy' => ?_⟩
  · obtain ⟨y, hy, rfl⟩ := List.mem_map.1 hy'
    obtain ⟨g1, g2, g3, g4, g5, g6, g7⟩ := one_iff.1 (h.one y hy)
    obtain ⟨k1, k2⟩ := hsub y hy
    refine one_iff.2 ⟨g1, g2, g3, ?_, ?_, k1, k2⟩
    · have any : ∀ q : ByteArray, (q = ⟨#[]⟩ ∨ ∃ z ∈ l, z.name = q) → q = ⟨#[]⟩ ∨ ∃ z ∈ l.map (movF (upI l x.parent) (upI l p) x.sub s p), z.name = q := by
        rintro q (e | ⟨z, hz, e⟩)
        · exact .inl e
        · exact .inr ⟨_, List.mem_map.2 ⟨z, hz, rfl⟩, e⟩
      show (if y.name = s then p else y.parent) = ⟨#[]⟩ ∨ ∃ z ∈ l.map (movF (upI l x.parent) (upI l p) x.sub s p), z.name = (if y.name = s then p else y.parent)
      split
      · exact any p hp
      · exact any _ g4
    · show 1 ≤ (if y.name = s then y.ver + 1 else y.ver) ∧ (if y.name = s then y.ver + 1 else y.ver) ≤ 9007199254740992
      split
      · rename_i e
        rw [key y hy e] at g5 ⊢; omega
      · exact g5
  · obtain ⟨y, hy, rfl⟩ := List.mem_map.1 hy'
    obtain ⟨t1, t2⟩ := two_iff.1 (h.two y hy)
    refine two_iff.2 ⟨?_, ?_⟩
    · show addV y.own (kidS (l.map (movF (upI l x.parent) (upI l p) x.sub s p)) y.name) = movS (upI l x.parent) (upI l p) x.sub y
      have em : l.map (movF (upI l x.parent) (upI l p) x.sub s p) = (((l.map (admS (upI l x.parent) (negV x.sub))).map (admS (upI l p) x.sub)).map (reP s p)) := by
        rw [List.map_map, List.map_map]; rfl
      have hu2 : Uq ((l.map (admS (upI l x.parent) (negV x.sub))).map (admS (upI l p) x.sub)) := by
        rw [List.map_map]
        exact List.pairwise_map.2 h.srt.uq
      have hx2 : x ∈ (l.map (admS (upI l x.parent) (negV x.sub))).map (admS (upI l p) x.sub) := by
        rw [List.map_map]
        refine List.mem_map.2 ⟨x, xm, ?_⟩
        show (⟨x.name, x.parent, x.lim, x.own, if x.name ∈ upI l p then addV (if x.name ∈ upI l x.parent then addV x.sub (negV x.sub) else x.sub) x.sub else (if x.name ∈ upI l x.parent then addV x.sub (negV x.sub) else x.sub), x.ver⟩ : I12) = x
        rw [xn, if_neg hc, if_neg hsw, ← xn]
      rw [em, kid_reP y.name xn hu2 hx2, kid_admS, kid_admS, cnt_map (f := admS (upI l x.parent) (negV x.sub)) (fun _ => rfl) (fun _ => rfl)]
      have c1 := chain_cnt h.srt.uq (l.length + 1) x.parent (hnd _) y hy
      have c2 := chain_cnt h.srt.uq (l.length + 1) p (hnd _) y hy
      have f1 : upF l (l.length + 1) x.parent = upI l x.parent := rfl
      have f2 : upF l (l.length + 1) p = upI l p := rfl
      rw [f1] at c1
      rw [f2] at c2
      have tc := congrArg V3.c t1
      have tm := congrArg V3.m t1
      have tp := congrArg V3.p t1
      simp only [addV] at tc tm tp
      unfold movS
      have hb : (x.parent = y.name) = (y.name = x.parent) := propext ⟨fun e => e.symm, fun e => e.symm⟩
      have he : (p = y.name) = (y.name = p) := propext ⟨fun e => e.symm, fun e => e.symm⟩
      simp only [hb, he]
      exact mov_arith c1 c2 tc tm tp
    · exact ends_up (mov_ends (f := movF (upI l x.parent) (upI l p) x.sub s p) (fun _ => rfl) (fun z hz => if_neg hz) (fun z hz => if_pos hz) hc (h.up p) (l.length + 1) y.name (hnd _))
theorem mov_ok {l : List I12} (h : RT l) {s p : ByteArray} {ver : Int} (h0 : movE l s p ver = 0) : RT (movL l s p) := by
  unfold movE at h0
  split at h0
  · rename_i g2; exact absurd h0 g2
  · rename_i g2
    obtain ⟨x, hx, e⟩ := old_look (Decidable.not_not.1 g2)
    unfold movL
    rw [e] at h0 ⊢
    split at h0
    · cases h0
    · rename_i g3
      split at h0
      · cases h0
      · rename_i g4
        split at h0
        · cases h0
        · rename_i g5
          split at h0
          · cases h0
          · rename_i g6
            rw [Bool.not_eq_false] at g6
            refine mov_right h hx (by omega) ?_ g4 (fun y hy hm => ?_)
            · by_cases e1 : p = ⟨#[]⟩
              · exact .inl e1
              · have hu : upI l p ≠ [] := fun e2 => g3 ⟨e1, e2⟩
                obtain ⟨y, hy⟩ := up_look hu
                exact .inr ⟨y, look_name hy⟩
            · unfold movR at g6
              rw [e] at g6
              have := List.all_eq_true.1 g6 y hy
              rw [decide_eq_true hm] at this
              simpa using this
end Go.Proofs.Ytmpakgabehplbaa
