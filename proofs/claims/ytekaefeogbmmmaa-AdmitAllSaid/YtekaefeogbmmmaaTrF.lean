/- Live trees: what is created, what is let in: it stays right (pure). -/
import Derived.Test.YtekaefeogbmmmaaTrE
namespace Go.Proofs.Ytekaefeogbmmmaa
open Go.RowKit
set_option linter.unusedVariables false
set_option linter.unusedSimpArgs false
/-- The node with v let in at s. -/
def admF (us : List ByteArray) (s : ByteArray) (v : V3) (x : I12) : I12 := ⟨x.name, x.parent, x.lim, if x.name = s then addV x.own v else x.own, if x.name ∈ us then addV x.sub v else x.sub, x.ver⟩
def timesV : Nat → V3 → V3
  | 0, _ => z3
  | n + 1, v => addV v (timesV n v)
theorem cnt_cons (y : I12) (r : List I12) (vs : List ByteArray) (t : ByteArray) : cnt (y :: r) vs t = (if y.parent = t ∧ y.name ∈ vs then 1 else 0) + cnt r vs t := by
  unfold cnt
  rw [List.filter_cons]
  by_cases h1 : y.parent = t
  · by_cases h2 : y.name ∈ vs
    · simp [h1, h2]; omega
    · simp [h1, h2]
  · simp [h1]
theorem kid_adm (us : List ByteArray) (s : ByteArray) (v : V3) (t : ByteArray) : ∀ l, kidS (l.map (admF us s v)) t = addV (kidS l t) (timesV (cnt l us t) v)
  | [] => (addV_z _).symm
  | y :: r => by
    rw [List.map_cons, kidS, kidS, cnt_cons, kid_adm us s v t r]
    show (if y.parent = t then addV (if y.name ∈ us then addV y.sub v else y.sub) _ else _) = _
    by_cases h1 : y.parent = t
    · rw [if_pos h1, if_pos h1]
      by_cases h2 : y.name ∈ us
      · rw [if_pos h2, if_pos ⟨h1, h2⟩, Nat.add_comm, timesV, addV_assoc, addV_assoc, addV_left v]
      · rw [if_neg h2, if_neg fun h => h2 h.2, Nat.zero_add, addV_assoc]
    · rw [if_neg h1, if_neg h1, if_neg fun h => h1 h.1, Nat.zero_add]
theorem look_map {f : I12 → I12} (hn : ∀ x, (f x).name = x.name) (l : List I12) (s : ByteArray) : look (l.map f) s = (look l s).map f := by
  unfold look
  rw [List.find?_map]
  congr 2
  funext x
  simp [Function.comp, hn]
theorem upF_map {f : I12 → I12} (hn : ∀ x, (f x).name = x.name) (hp : ∀ x, (f x).parent = x.parent) (l : List I12) : ∀ n s, upF (l.map f) n s = upF l n s
  | 0, s => rfl
  | n + 1, s => by
    rw [upF_look, upF_look, look_map hn]
    cases look l s with
    | none => rfl
    | some x =>
      show (f x).name :: upF (l.map f) n (f x).parent = _
      rw [hn, hp, upF_map hn hp l n]
theorem upI_map {f : I12 → I12} (hn : ∀ x, (f x).name = x.name) (hp : ∀ x, (f x).parent = x.parent) (l : List I12) (s : ByteArray) : upI (l.map f) s = upI l s := by
  unfold upI
  rw [List.length_map, upF_map hn hp]
theorem RT.up {l : List I12} (h : RT l) (s : ByteArray) : (upI l s).length ≤ l.length := by
  cases hs : look l s with
  | none => unfold upI; rw [upF_lnone hs]; exact Nat.zero_le _
  | some x =>
    obtain ⟨hx, rfl⟩ := look_name hs
    exact (two_iff.1 (h.two x hx)).2
theorem adm_sum {l : List I12} (h : RT l) (s : ByteArray) (v : V3) {x : I12} (hx : x ∈ l) : addV (admF (upI l s) s v x).own (kidS (l.map (admF (upI l s) s v)) x.name) = (admF (upI l s) s v x).sub := by
  rw [kid_adm]
  have c : (if x.name = s then 1 else 0) + cnt l (upI l s) x.name = if x.name ∈ upI l s then 1 else 0 := chain_cnt h.srt.uq (l.length + 1) s (by have := h.up s; unfold upI at this; omega) x hx
  have t := (two_iff.1 (h.two x hx)).1
  show addV (if x.name = s then addV x.own v else x.own) _ = (if x.name ∈ upI l s then addV x.sub v else x.sub)
  by_cases a : x.name = s
  · by_cases b : x.name ∈ upI l s
    · rw [if_pos a, if_pos b] at c
      rw [if_pos a, if_pos b, show cnt l (upI l s) x.name = 0 by omega, timesV, addV_z, ← t, addV_assoc, addV_assoc, addV_comm v]
    · rw [if_pos a, if_neg b] at c; omega
  · by_cases b : x.name ∈ upI l s
    · rw [if_neg a, if_pos b] at c
      rw [if_neg a, if_pos b, show cnt l (upI l s) x.name = 0 + 1 by omega, timesV, timesV, addV_z, ← t, addV_assoc]
    · rw [if_neg a, if_neg b] at c
      rw [if_neg a, if_neg b, show cnt l (upI l s) x.name = 0 by omega, timesV, addV_z, t]
/-- What is let in where there is room leaves a tree right. -/
theorem adm_right {l : List I12} (h : RT l) {s : ByteArray} {v : V3} (hv : mayV v = true) (hroom : ∀ x ∈ l, x.name ∈ upI l s → leV (addV x.sub v) x.lim = true) : RT (l.map (admF (upI l s) s v)) := by
  have hv' := may_bounds hv
  have hsub : ∀ x ∈ l, leV (admF (upI l s) s v x).sub x.lim = true ∧ mayV (admF (upI l s) s v x).sub = true := by
    intro x hx
    obtain ⟨-, g2, -, -, -, g6, g7⟩ := one_iff.1 (h.one x hx)
    show leV (if x.name ∈ upI l s then addV x.sub v else x.sub) x.lim = true ∧ mayV (if x.name ∈ upI l s then addV x.sub v else x.sub) = true
    split
    · rename_i hm
      have hr := hroom x hx hm
      refine ⟨hr, may_iff.2 ?_⟩
      have e1 := le_iff.1 hr
      have e2 := may_bounds g2
      have e3 := may_bounds g7
      simp only [addV] at e1 ⊢
      omega
    · exact ⟨g6, g7⟩
  refine ⟨by rw [List.length_map]; exact h.len, List.pairwise_map.2 h.srt, fun x' hx' => ?_, fun x' hx' => ?_⟩
  · obtain ⟨x, hx, rfl⟩ := List.mem_map.1 hx'
    obtain ⟨g1, g2, g3, g4, g5, g6, g7⟩ := one_iff.1 (h.one x hx)
    obtain ⟨k1, k2⟩ := hsub x hx
    refine one_iff.2 ⟨g1, g2, ?_, ?_, g5, k1, k2⟩
    · have e := adm_sum h s v hx
      have ge := kid_ge x.name (l.map (admF (upI l s) s v)) (fun y hy => by
        obtain ⟨z, hz, rfl⟩ := List.mem_map.1 hy
        exact (hsub z hz).2)
      have e2 := may_bounds k2
      have e3 := may_bounds g3
      have e4 : addV x.own v = addV x.own v := rfl
      refine may_iff.2 ?_
      have ec : (admF (upI l s) s v x).own.c + (kidS (l.map (admF (upI l s) s v)) x.name).c = (admF (upI l s) s v x).sub.c := congrArg V3.c e
      have em : (admF (upI l s) s v x).own.m + (kidS (l.map (admF (upI l s) s v)) x.name).m = (admF (upI l s) s v x).sub.m := congrArg V3.m e
      have ep : (admF (upI l s) s v x).own.p + (kidS (l.map (admF (upI l s) s v)) x.name).p = (admF (upI l s) s v x).sub.p := congrArg V3.p e
      have lo : 0 ≤ (admF (upI l s) s v x).own.c ∧ 0 ≤ (admF (upI l s) s v x).own.m ∧ 0 ≤ (admF (upI l s) s v x).own.p := by
        show 0 ≤ (if x.name = s then addV x.own v else x.own).c ∧ 0 ≤ (if x.name = s then addV x.own v else x.own).m ∧ 0 ≤ (if x.name = s then addV x.own v else x.own).p
        split
        · simp only [addV]; omega
        · omega
      omega
    · rcases g4 with g4 | ⟨y, hy, e⟩
      · exact .inl g4
      · exact .inr ⟨_, List.mem_map.2 ⟨y, hy, rfl⟩, e⟩
  · obtain ⟨x, hx, rfl⟩ := List.mem_map.1 hx'
    refine two_iff.2 ⟨adm_sum h s v hx, ?_⟩
    rw [upI_map (f := admF (upI l s) s v) (fun _ => rfl) (fun _ => rfl), List.length_map]
    exact h.up _
/-- A new node. -/
def newI (s p : ByteArray) (lim : V3) : I12 := ⟨s, p, lim, z3, z3, 1⟩
theorem name_ne {s : ByteArray} (h : nameB s = true) : s ≠ ⟨#[]⟩ := by
  unfold nameB at h
  simp only [Bool.and_eq_true] at h
  intro e
  rw [decide_eq_true e] at h
  exact absurd h.1 (by decide)
theorem mem_ins {a b : List I12} {y x : I12} : x ∈ a ++ y :: b ↔ x = y ∨ x ∈ a ++ b := by simp [or_left_comm]
theorem look_ins {a b : List I12} {y : I12} {t : ByteArray} (h : y.name ≠ t) : look (a ++ y :: b) t = look (a ++ b) t := by
  unfold look
  rw [List.find?_append, List.find?_append, List.find?_cons]
  simp [h]
theorem upF_ins {a b : List I12} {y : I12} (hpar : ∀ x ∈ a ++ b, x.parent ≠ y.name) : ∀ n t, y.name ≠ t → upF (a ++ y :: b) n t = upF (a ++ b) n t
  | 0, t, _ => rfl
  | n + 1, t, h => by
    rw [upF_look, upF_look, look_ins h]
    cases hl : look (a ++ b) t with
    | none => rfl
    | some x =>
      show x.name :: _ = x.name :: _
      rw [upF_ins hpar n x.parent (fun e => hpar x (look_name hl).1 e.symm)]
theorem ins_right {a b : List I12} {s p : ByteArray} {lim : V3} (h : RT (a ++ b)) (ha : ∀ x ∈ a, ltS x.name s = true) (hb : ∀ x ∈ b, ltS s x.name = true) (hs : nameB s = true) (hm : mayV lim = true)
    (hp : p = ⟨#[]⟩ ∨ ∃ y ∈ a ++ b, y.name = p) (hl : (a ++ b).length < 120) : RT (a ++ newI s p lim :: b) := by
  have hno : ∀ x ∈ a ++ b, x.name ≠ s := by
    intro x hx
    rcases List.mem_append.1 hx with hx | hx
    · exact ltS_ne (ha x hx)
    · exact (ltS_ne (hb x hx)).symm
  have hps : p ≠ s := by
    rcases hp with rfl | ⟨y, hy, rfl⟩
    · exact (name_ne hs).symm
    · exact hno y hy
  have hpar : ∀ x ∈ a ++ b, x.parent ≠ s := by
    intro x hx
    obtain ⟨-, -, -, g4, -⟩ := one_iff.1 (h.one x hx)
    rcases g4 with e | ⟨y, hy, e⟩
    · rw [e]; exact (name_ne hs).symm
    · rw [← e]; exact hno y hy
  have hlen : (a ++ newI s p lim :: b).length = (a ++ b).length + 1 := by simp; omega
  refine ⟨by omega, ?_, fun x hx => ?_, fun x hx => ?_⟩
  · have h1 := h.srt
    unfold Srt at h1 ⊢
    rw [List.pairwise_append] at h1 ⊢
    obtain ⟨h2, h3, h4⟩ := h1
    refine ⟨h2, List.pairwise_cons.2 ⟨fun x hx => hb x hx, h3⟩, fun x hx y hy => ?_⟩
    rcases List.mem_cons.1 hy with rfl | hy
    · exact ha x hx
    · exact h4 x hx y hy
  · rcases mem_ins.1 hx with rfl | hx
    · refine one_iff.2 ⟨hs, hm, (show mayV z3 = true by decide), ?_, ⟨(show (1 : Int) ≤ 1 by decide), (show (1 : Int) ≤ 9007199254740992 by decide)⟩, ?_, (show mayV z3 = true by decide)⟩
      · rcases hp with e | ⟨y, hy, e⟩
        · exact .inl e
        · exact .inr ⟨y, mem_ins.2 (.inr hy), e⟩
      · have := may_bounds hm
        refine le_iff.2 ?_
        show (0 : Int) ≤ lim.c ∧ (0 : Int) ≤ lim.m ∧ (0 : Int) ≤ lim.p
        omega
    · obtain ⟨g1, g2, g3, g4, g5, g6, g7⟩ := one_iff.1 (h.one x hx)
      refine one_iff.2 ⟨g1, g2, g3, ?_, g5, g6, g7⟩
      rcases g4 with e | ⟨y, hy, e⟩
      · exact .inl e
      · exact .inr ⟨y, mem_ins.2 (.inr hy), e⟩
  · rcases mem_ins.1 hx with rfl | hx
    · refine two_iff.2 ⟨?_, ?_⟩
      · show addV z3 (kidS _ s) = z3
        rw [z_addV, kid_none]
        intro y hy
        rcases mem_ins.1 hy with rfl | hy
        · exact hps
        · exact hpar y hy
      · have e : upI (a ++ newI s p lim :: b) s = s :: upF (a ++ newI s p lim :: b) ((a ++ b).length + 1) p := by
          unfold upI
          rw [hlen, upF_look, show look (a ++ newI s p lim :: b) s = some (newI s p lim) from by
            unfold look
            rw [List.find?_append, show (a.find? fun x => decide (x.name = s)) = none from by
              rw [List.find?_eq_none]
              intro x hx
              simpa using ltS_ne (ha x hx), List.find?_cons]
            simp [newI]]
          rfl
        show (upI _ s).length ≤ _
        rw [e, upF_ins (y := newI s p lim) hpar _ _ (show s ≠ p from hps.symm), List.length_cons, hlen]
        have := h.up p
        unfold upI at this
        omega
    · obtain ⟨t1, t2⟩ := two_iff.1 (h.two x hx)
      refine two_iff.2 ⟨?_, ?_⟩
      · rw [← t1, kid_app, kid_app, kidS]
        show addV x.own (addV (kidS a x.name) (if p = x.name then addV z3 (kidS b x.name) else kidS b x.name)) = _
        rw [z_addV, ite_self]
      · unfold upI at t2 ⊢
        have hc := upF_next (l := a ++ b) ((a ++ b).length + 1) x.name (by omega)
        rw [hlen, upF_ins (y := newI s p lim) hpar _ _ (show s ≠ x.name from (hno x hx).symm), hc]
        omega
/-- The tree with a new node, at its place. -/
def createL (l : List I12) (s p : ByteArray) (lim : V3) : List I12 := (l.takeWhile fun x => ltS x.name s) ++ newI s p lim :: (l.dropWhile fun x => ltS x.name s)
theorem create_right {l : List I12} {s p : ByteArray} {lim : V3} (h : RT l) (hs : nameB s = true) (hm : mayV lim = true) (hn : look l s = none) (hp : p = ⟨#[]⟩ ∨ ∃ y ∈ l, y.name = p) (hl : l.length < 120) : RT (createL l s p lim) := by
  have e : (l.takeWhile fun x => ltS x.name s) ++ (l.dropWhile fun x => ltS x.name s) = l := List.takeWhile_append_dropWhile
  unfold createL
  refine ins_right (by rw [e]; exact h) (fun x hx => List.all_eq_true.1 (List.all_takeWhile (p := fun x : I12 => ltS x.name s) (l := l)) x hx) ?_ hs hm (by rw [e]; exact hp) (by rw [e]; exact hl)
  have h1 := h.srt
  unfold Srt at h1
  rw [← e, List.pairwise_append] at h1
  have h2 := h1.2.1
  have hno : ∀ x ∈ l.dropWhile (fun x => ltS x.name s), x.name ≠ s := fun x hx => look_none.1 hn x (by rw [← e]; exact List.mem_append_right _ hx)
  cases hd : l.dropWhile (fun x => ltS x.name s) with
  | nil => intro x hx; cases hx
  | cons y r =>
    rw [hd] at h2 hno
    have hy : ltS y.name s = false := by
      have := List.head?_dropWhile_not (fun x : I12 => ltS x.name s) l
      rw [hd] at this
      simpa using this
    have hy2 := ltS_tot hy (hno y List.mem_cons_self)
    intro x hx
    rcases List.mem_cons.1 hx with rfl | hx
    · exact hy2
    · exact ltS_trans hy2 ((List.pairwise_cons.1 h2).1 x hx)
end Go.Proofs.Ytekaefeogbmmmaa
