/- A change of one changes no other one (pure). -/
import Derived.Test.YtmpakgabehplbaaShI
import Derived.Test.YtmpakgabehplbaaShK
namespace Go.Proofs.Ytmpakgabehplbaa
open Go.RowKit
set_option linter.unusedVariables false
set_option linter.unusedSimpArgs false
/-- All but what lies below is as it was. -/
def SameBut (x y : I12) : Prop := x.name = y.name ∧ x.parent = y.parent ∧ x.lim = y.lim ∧ x.own = y.own ∧ x.ver = y.ver
theorem SameBut.refl (x : I12) : SameBut x x := ⟨rfl, rfl, rfl, rfl, rfl⟩
theorem rest_of {l m : List I12} (hm : RT m) {x : I12} (h : ∃ y ∈ m, SameBut x y) : ∃ (k : Nat) (y : I12), findI m x.name = (k : Int) ∧ m[k]? = some y ∧ SameBut x y := by
  obtain ⟨y, hy, hs⟩ := h
  have h1 := look_mem hm.srt.uq hy
  obtain ⟨k, h2, h3⟩ := find_at h1
  exact ⟨k, y, by rw [hs.1]; exact h2, h3, hs⟩
theorem del_none {l : List I12} {s : ByteArray} (h : ∀ x ∈ l, x.name ≠ s) : delL l s = l := by
  unfold delL
  rw [List.filter_eq_self]
  intro x hx
  rw [decide_eq_false (h x hx)]; rfl
theorem del_len {l : List I12} (h : Uq l) {x : I12} {s : ByteArray} (hx : look l s = some x) : (delL l s).length + 1 = l.length := by
  obtain ⟨a, b, e1, e2, -⟩ := del_split h hx
  rw [e2, e1]; simp; omega
theorem del_step {l : List I12} {s : ByteArray} {k : Nat} {x : I12} (hx : l[k]? = some x) : (delL (l.take (k + 1)) s).length = if x.name = s then (delL (l.take k) s).length else (delL (l.take k) s).length + 1 := by
  unfold delL
  rw [List.take_add_one, hx, List.filter_append, List.length_append]
  by_cases h : x.name = s
  · rw [if_pos h]; simp [h]
  · rw [if_neg h]; simp [h]
theorem do_rest {l : List I12} (hr : RT l) {st : St6} {ver : Int} (h0 : doE l st ver = 0) {x : I12} (hx : x ∈ l) (hn : x.name ≠ st.name) : ∃ (k : Nat) (y : I12), findI (doL l st) x.name = (k : Int) ∧ (doL l st)[k]? = some y ∧ SameBut x y := by
  refine rest_of (l := l) (do_ok hr h0) ?_
  unfold doL
  split
  · exact ⟨x, mem_create.2 (.inr hx), SameBut.refl x⟩
  · split
    · refine ⟨_, List.mem_map.2 ⟨x, hx, rfl⟩, rfl, rfl, ?_, rfl, ?_⟩
      · show x.lim = if x.name = st.name then st.lim else x.lim
        rw [if_neg hn]
      · show x.ver = if x.name = st.name then x.ver + 1 else x.ver
        rw [if_neg hn]
    · split
      · refine ⟨_, List.mem_map.2 ⟨x, hx, rfl⟩, rfl, ?_, rfl, rfl, ?_⟩
        · show x.parent = if x.name = st.name then st.par else x.parent
          rw [if_neg hn]
        · show x.ver = if x.name = st.name then x.ver + 1 else x.ver
          rw [if_neg hn]
      · refine ⟨x, ?_, SameBut.refl x⟩
        unfold delL
        rw [List.mem_filter]
        exact ⟨hx, by rw [decide_eq_false hn]; rfl⟩
theorem do_self {l : List I12} (hr : RT l) {st : St6} {ver : Int} (h0 : doE l st ver = 0) : if st.kind = 4 then findI (doL l st) st.name = -1 ∧ (doL l st).length = (delL l st.name).length else 0 ≤ findI (doL l st) st.name ∧ (doL l st).length = (delL l st.name).length + 1 := by
  have hm := do_ok hr h0
  have there : ∀ y ∈ doL l st, y.name = st.name → 0 ≤ findI (doL l st) st.name := fun y hy e => by
    have h1 := look_mem hm.srt.uq hy
    obtain ⟨k, h2, h3⟩ := find_at h1
    rw [← e, h2]; omega
  unfold doE at h0
  unfold doL at there ⊢
  split at h0
  · rename_i e
    rw [if_neg (by omega)]
    rw [if_pos e] at there ⊢
    refine ⟨there _ (mem_create.2 (.inl rfl)) rfl, ?_⟩
    rw [create_len, del_none]
    unfold createE at h0
    split at h0
    · cases h0
    · split at h0
      · cases h0
      · rename_i g
        exact iIdx_no (Decidable.not_not.1 g)
  · rename_i e1
    rw [if_neg e1] at there ⊢
    split at h0
    · rename_i e
      rw [if_neg (by omega)]
      rw [if_pos e] at there ⊢
      have hold : oldE l st.name ver = 0 := by
        unfold limE at h0
        split at h0
        · cases h0
        · split at h0
          · rename_i g2; exact absurd h0 g2
          · rename_i g2; exact Decidable.not_not.1 g2
      obtain ⟨x, hx, -⟩ := old_look hold
      obtain ⟨xm, xn⟩ := look_name hx
      refine ⟨there _ (List.mem_map.2 ⟨x, xm, rfl⟩) xn, ?_⟩
      rw [del_len hr.srt.uq hx]
      exact List.length_map _
    · rename_i e2
      rw [if_neg e2] at there ⊢
      split at h0
      · rename_i e
        rw [if_neg (by omega)]
        rw [if_pos e] at there ⊢
        have hold : oldE l st.name ver = 0 := by
          unfold movE at h0
          split at h0
          · rename_i g2; exact absurd h0 g2
          · rename_i g2; exact Decidable.not_not.1 g2
        obtain ⟨x, hx, -⟩ := old_look hold
        obtain ⟨xm, xn⟩ := look_name hx
        refine ⟨there _ (List.mem_map.2 ⟨x, xm, rfl⟩) xn, ?_⟩
        rw [del_len hr.srt.uq hx]
        exact List.length_map _
      · rename_i e3
        rw [if_neg e3]
        split at h0
        · rename_i e
          rw [if_pos e]
          refine ⟨find_none (look_none.2 fun x hx => ?_), rfl⟩
          unfold delL at hx
          rw [List.mem_filter] at hx
          simpa using hx.2
        · cases h0
theorem IBlk.free {w : World} {g : Nat} {u : I12} (h : IBlk w g u) (o : Nat) : w.frozen? ⟨g, o, none⟩ = false := by
  unfold IBlk at h
  simp [World.frozen?, h]
theorem IBlk.far {w : World} {g f : Nat} {u : I12} (h : IBlk w g u) (hf : g ≠ f) (o : Nat) (v : Value) : IBlk (w.setCell ⟨f, o, none⟩ v) g u := (heap_setCell_other w ⟨f, o, none⟩ g v hf).trans h
theorem IBlk.setSub {w : World} {g : Nat} {u : I12} (h : IBlk w g u) (v : V3) : IBlk (((w.setCell ⟨g, 8, none⟩ (.int .i64 v.c)).setCell ⟨g, 9, none⟩ (.int .i64 v.m)).setCell ⟨g, 10, none⟩ (.int .i64 v.p)) g ⟨u.name, u.parent, u.lim, u.own, v, u.ver⟩ := by
  have h0 := heap_setCell_same w g 8 _ _ (.int .i64 v.c) h
  have h1 := heap_setCell_same _ g 9 _ _ (.int .i64 v.m) h0
  exact heap_setCell_same _ g 10 _ _ (.int .i64 v.p) h1
theorem SameBut.eq {x y : I12} (h : SameBut x y) : (⟨x.name, x.parent, x.lim, x.own, y.sub, x.ver⟩ : I12) = y := by
  obtain ⟨h1, h2, h3, h4, h5⟩ := h
  cases x; cases y; simp_all
end Go.Proofs.Ytmpakgabehplbaa
