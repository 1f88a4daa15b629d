/- Package shape: the places of a way up. -/
import Derived.Test.YtmpakgabehplbaaZhQ
import Derived.Test.YtmpakgabehplbaaNatC
namespace Go.Proofs.Ytmpakgabehplbaa
open Go.RowKit
set_option linter.unusedVariables false
set_option linter.unusedSimpArgs false
/-- The places of these names. -/
def ptL (l : List I12) (us : List ByteArray) : List Nat := us.filterMap (iIdx l)
theorem idx_at {l : List I12} (hu : Uq l) {z : Nat} {y : I12} (h : l[z]? = some y) : iIdx l y.name = some z := by
  cases hi : iIdx l y.name with
  | none => exact absurd rfl (iIdx_no hi y (List.mem_of_getElem? h))
  | some j =>
    obtain ⟨y', h1, h2, -⟩ := iIdx_spec hi
    rw [uq_at hu h1 h h2]
theorem pt_mem {l : List I12} (hu : Uq l) {us : List ByteArray} {z : Nat} : z ∈ ptL l us ↔ ∃ y, l[z]? = some y ∧ y.name ∈ us := by
  unfold ptL
  rw [List.mem_filterMap]
  constructor
  · rintro ⟨t, ht, hi⟩
    obtain ⟨y, h1, h2, -⟩ := iIdx_spec hi
    exact ⟨y, h1, by rw [h2]; exact ht⟩
  · rintro ⟨y, h1, h2⟩
    exact ⟨y.name, h2, idx_at hu h1⟩
theorem pt_name {l : List I12} (hu : Uq l) {us : List ByteArray} {z : Nat} {y : I12} (h : l[z]? = some y) : z ∈ ptL l us ↔ y.name ∈ us := by
  rw [pt_mem hu]
  constructor
  · rintro ⟨y', h1, h2⟩
    obtain rfl : y = y' := Option.some.inj (h.symm.trans h1)
    exact h2
  · exact fun h2 => ⟨y, h, h2⟩
/-- The way up from an item, by places. -/
theorem up_way {l : List I12} (h : RT l) (a : ByteArray) : upI l a = [] ∨ ∃ k x, l[k]? = some x ∧ x.name = a ∧ ptL l (upI l a) = k :: ptL l (upI l x.parent) ∧ k ∉ ptL l (upI l x.parent) ∧ (upI l x.parent).length < (upI l a).length := by
  by_cases he : upI l a = []
  · exact .inl he
  · right
    obtain ⟨x, hx⟩ := up_look he
    obtain ⟨xm, xn⟩ := look_name hx
    obtain ⟨k, hk, hkx⟩ := look_at hx
    refine ⟨k, x, hkx, xn, ?_, ?_, ?_⟩
    · rw [← xn, up_cons h xm]
      unfold ptL
      rw [List.filterMap_cons, idx_at h.srt.uq hkx]
    · rw [pt_name h.srt.uq hkx]
      exact up_not h xm
    · rw [← xn, up_cons h xm, List.length_cons]; omega
def nxt (l : List I12) (z : Nat) : List Nat := match l[z]? with | some y => ptL l (upI l y.parent) | none => []
theorem way_chain {l : List I12} (h : RT l) : ∀ (A : List Nat) (a : ByteArray) (z : Nat) (B : List Nat), ptL l (upI l a) = A ++ z :: B → B = nxt l z
  | [], a, z, B, e => by
    rcases up_way h a with h0 | ⟨k, x, hk, -, e1, -, -⟩
    · rw [h0] at e; cases e
    · rw [e1] at e
      simp only [List.nil_append, List.cons.injEq] at e
      obtain ⟨rfl, rfl⟩ := e
      unfold nxt; rw [hk]
  | c :: A, a, z, B, e => by
    rcases up_way h a with h0 | ⟨k, x, hk, -, e1, -, -⟩
    · rw [h0] at e; cases e
    · rw [e1] at e
      simp only [List.cons_append, List.cons.injEq] at e
      exact way_chain h A x.parent z B e.2
theorem way_nodup {l : List I12} (h : RT l) : ∀ (n : Nat) (a : ByteArray), (upI l a).length ≤ n → (ptL l (upI l a)).Nodup
  | n, a, hn => by
    rcases up_way h a with h0 | ⟨k, x, hk, -, e1, h2, h3⟩
    · rw [h0]; exact List.nodup_nil
    · cases n with
      | zero => omega
      | succ n =>
        rw [e1]
        exact List.nodup_cons.2 ⟨h2, way_nodup h n x.parent (by omega)⟩
/-- Of two ways the ends that they share are taken away. -/
theorem ways_apart {l : List I12} (h : RT l) {a b : ByteArray} {F T C : List Nat} (hF : ptL l (upI l a) = F ++ C) (hT : ptL l (upI l b) = T ++ C) (hx : ∀ A B z, F = A ++ [z] → T = B ++ [z] → False) : ∀ z, z ∈ F → z ∈ ptL l (upI l b) → False := by
  intro z hz hzt
  have nF := way_nodup h _ a (Nat.le_refl _)
  rw [hF] at nF
  rw [hT] at hzt
  rcases List.mem_append.1 hzt with hzt | hzt
  · obtain ⟨A, A2, rfl⟩ := List.append_of_mem hz
    obtain ⟨B, B2, rfl⟩ := List.append_of_mem hzt
    have e1 := way_chain h A a z (A2 ++ C) (by rw [hF]; simp)
    have e2 := way_chain h B b z (B2 ++ C) (by rw [hT]; simp)
    have e3 : A2 = B2 := List.append_cancel_right (e1.trans e2.symm)
    subst e3
    rcases List.eq_nil_or_concat A2 with rfl | ⟨A3, y, rfl⟩
    · exact hx A B z rfl rfl
    · exact hx (A ++ z :: A3) (B ++ z :: A3) y (by simp) (by simp)
  · exact (List.nodup_append.1 nF).2.2 z hz z hzt rfl
/-- An item that uses more. -/
def smI (d : V3) (y : I12) : I12 := ⟨y.name, y.parent, y.lim, y.own, addV y.sub d, y.ver⟩
def chgL (zs : List Nat) (d : V3) (L : List I12) : List I12 := L.mapIdx fun i y => if i ∈ zs then smI d y else y
theorem chg_len (zs : List Nat) (d : V3) (L : List I12) : (chgL zs d L).length = L.length := List.length_mapIdx
theorem chg_get (zs : List Nat) (d : V3) (L : List I12) (i : Nat) : (chgL zs d L)[i]? = (L[i]?).map fun y => if i ∈ zs then smI d y else y := by
  unfold chgL; rw [List.getElem?_mapIdx]
theorem chg_nil (d : V3) (L : List I12) : chgL [] d L = L := by
  apply List.ext_getElem?
  intro i
  rw [chg_get]
  cases L[i]? <;> simp
theorem chg_at {zs : List Nat} {d : V3} {L : List I12} {z : Nat} {y : I12} (hz : z ∉ zs) (h : L[z]? = some y) : (chgL zs d L)[z]? = some y := by
  rw [chg_get, h, Option.map_some, if_neg hz]
theorem take_not {zs : List Nat} (hn : zs.Nodup) {j z : Nat} (hj : zs[j]? = some z) : z ∉ zs.take j := by
  intro hm
  obtain ⟨i, hi, e⟩ := List.getElem_of_mem hm
  rw [List.length_take] at hi
  rw [List.getElem_take] at e
  have hjl := (List.getElem?_eq_some_iff.1 hj).1
  have := (List.getElem?_eq_some_iff.1 hj).2
  rw [← this] at e
  have := (List.getElem_inj hn).1 e
  omega
theorem chg_set {zs : List Nat} (hn : zs.Nodup) {d : V3} {L : List I12} {j z : Nat} {y : I12} (hj : zs[j]? = some z) (h : L[z]? = some y) : (chgL (zs.take j) d L).set z (smI d y) = chgL (zs.take (j + 1)) d L := by
  have ht : zs.take (j + 1) = zs.take j ++ [z] := by rw [List.take_add_one, hj]; rfl
  apply List.ext_getElem?
  intro i
  rw [List.getElem?_set, chg_len, chg_get, chg_get, ht]
  by_cases e : z = i
  · subst e
    rw [if_pos rfl, if_pos (List.getElem?_eq_some_iff.1 h).1, h, Option.map_some, if_pos (by simp)]
  · rw [if_neg e]
    cases L[i]? with
    | none => rfl
    | some u =>
      simp only [Option.map_some, List.mem_append, List.mem_singleton]
      have : (i ∈ zs.take j ∨ i = z) ↔ i ∈ zs.take j := ⟨fun h => h.elim id (fun h => absurd h.symm e), .inl⟩
      simp only [this]
theorem movS_plain {was up : List ByteArray} {d : V3} {y : I12} (h1 : y.name ∉ up) (h2 : y.name ∉ was) : movS was up d y = y.sub := by unfold movS; rw [if_neg h1, if_neg h2]
theorem movS_up {was up : List ByteArray} {d : V3} {y : I12} (h1 : y.name ∈ up) (h2 : y.name ∉ was) : movS was up d y = addV y.sub d := by unfold movS; rw [if_pos h1, if_neg h2]
theorem movS_was {was up : List ByteArray} {d : V3} {y : I12} (h1 : y.name ∉ up) (h2 : y.name ∈ was) : movS was up d y = addV y.sub (negV d) := by unfold movS; rw [if_neg h1, if_pos h2]
theorem movS_both {was up : List ByteArray} {d : V3} {y : I12} (h1 : y.name ∈ up) (h2 : y.name ∈ was) : movS was up d y = y.sub := by
  unfold movS; rw [if_pos h1, if_pos h2]
  apply v3_eq <;> simp only [addV, negV] <;> omega
/-- The two ways of a move. -/
structure Ways (l : List I12) (k : Nat) (x : I12) (s p : ByteArray) (F T : List Nat) : Prop where
  from_ : ∀ z y, l[z]? = some y → (z ∈ F ↔ y.name ∈ upI l x.parent ∧ y.name ∉ upI l p)
  to_ : ∀ z y, l[z]? = some y → (z ∈ T ↔ y.name ∈ upI l p ∧ y.name ∉ upI l x.parent)
  fn : F.Nodup
  tn : T.Nodup
  fl : ∀ z ∈ F, ∃ y, l[z]? = some y
  tl : ∀ z ∈ T, ∃ y, l[z]? = some y
  kf : k ∉ F
  kt : k ∉ T
theorem ways_of {l : List I12} (h : RT l) {k : Nat} {x : I12} {s p : ByteArray} (hk : l[k]? = some x) (hs : x.name = s) (hc : s ∉ upI l p) {F T C : List Nat} (hF : ptL l (upI l x.parent) = F ++ C) (hT : ptL l (upI l p) = T ++ C) (hx : ∀ A B z, F = A ++ [z] → T = B ++ [z] → False) : Ways l k x s p F T := by
  have xm := List.mem_of_getElem? hk
  have nF := way_nodup h _ x.parent (Nat.le_refl _)
  have nT := way_nodup h _ p (Nat.le_refl _)
  have a1 := ways_apart h hF hT hx
  have a2 := ways_apart h hT hF (fun A B z h1 h2 => hx B A z h2 h1)
  have inF : ∀ z, z ∈ F → z ∈ ptL l (upI l x.parent) := fun z hz => by rw [hF]; exact List.mem_append_left _ hz
  have inT : ∀ z, z ∈ T → z ∈ ptL l (upI l p) := fun z hz => by rw [hT]; exact List.mem_append_left _ hz
  refine ⟨fun z y hy => ?_, fun z y hy => ?_, ?_, ?_, fun z hz => ?_, fun z hz => ?_, fun hz => ?_, fun hz => ?_⟩
  · rw [← pt_name h.srt.uq hy, ← pt_name h.srt.uq hy]
    refine ⟨fun hz => ⟨inF z hz, fun h2 => a1 z hz h2⟩, fun ⟨h1, h2⟩ => ?_⟩
    rw [hF] at h1
    rcases List.mem_append.1 h1 with h1 | h1
    · exact h1
    · exact absurd (by rw [hT]; exact List.mem_append_right _ h1) h2
  · rw [← pt_name h.srt.uq hy, ← pt_name h.srt.uq hy]
    refine ⟨fun hz => ⟨inT z hz, fun h2 => a2 z hz h2⟩, fun ⟨h1, h2⟩ => ?_⟩
    rw [hT] at h1
    rcases List.mem_append.1 h1 with h1 | h1
    · exact h1
    · exact absurd (by rw [hF]; exact List.mem_append_right _ h1) h2
  · rw [hF] at nF; exact (List.nodup_append.1 nF).1
  · rw [hT] at nT; exact (List.nodup_append.1 nT).1
  · obtain ⟨y, hy, -⟩ := (pt_mem h.srt.uq).1 (inF z hz)
    exact ⟨y, hy⟩
  · obtain ⟨y, hy, -⟩ := (pt_mem h.srt.uq).1 (inT z hz)
    exact ⟨y, hy⟩
  · exact up_not h xm ((pt_name h.srt.uq hk).1 (inF k hz))
  · exact hc (by rw [← hs]; exact (pt_name h.srt.uq hk).1 (inT k hz))
/-- Who is come to has room. -/
def fitsP (l : List I12) (d : V3) (z : Nat) : Bool := match l[z]? with | some y => leV (addV y.sub d) y.lim | none => true
theorem room_all {l : List I12} (h : RT l) {k : Nat} {x : I12} {s p : ByteArray} {F T : List Nat} (W : Ways l k x s p F T) (hi : itAt l s = x) : movR l s p = T.all (fitsP l x.sub) := by
  rw [Bool.eq_iff_iff]
  unfold movR
  rw [hi, List.all_eq_true, List.all_eq_true]
  constructor
  · intro h1 z hz
    obtain ⟨y, hy⟩ := W.tl z hz
    obtain ⟨h2, h3⟩ := (W.to_ z y hy).1 hz
    have h4 := h1 y (List.mem_of_getElem? hy)
    rw [decide_eq_true h2, movS_up h2 h3] at h4
    unfold fitsP
    rw [hy]
    simpa using h4
  · intro h1 y hy
    obtain ⟨z, hz⟩ := List.getElem?_of_mem hy
    by_cases h2 : y.name ∈ upI l p
    · rw [decide_eq_true h2]
      by_cases h3 : y.name ∈ upI l x.parent
      · rw [movS_both h2 h3, (one_iff.1 (h.one y hy)).2.2.2.2.2.1]; rfl
      · rw [movS_up h2 h3]
        have h4 := h1 z ((W.to_ z y hz).2 ⟨h2, h3⟩)
        unfold fitsP at h4
        rw [hz] at h4
        simpa using h4
    · rw [decide_eq_false h2]; rfl
theorem mov_fin {l : List I12} (h : RT l) {k : Nat} {x : I12} {s p : ByteArray} {F T : List Nat} (W : Ways l k x s p F T) (hk : l[k]? = some x) (hs : x.name = s) (hi : itAt l s = x) (hc : s ∉ upI l p) :
    ((chgL T x.sub (chgL F (negV x.sub) l)).set k ⟨x.name, p, x.lim, x.own, x.sub, x.ver⟩).set k ⟨x.name, p, x.lim, x.own, x.sub, x.ver + 1⟩ = movL l s p := by
  rw [List.set_set]
  unfold movL
  rw [hi]
  apply List.ext_getElem?
  intro i
  rw [List.getElem?_set, chg_len, chg_len, chg_get, chg_get, List.getElem?_map]
  have hkl := (List.getElem?_eq_some_iff.1 hk).1
  by_cases e : k = i
  · subst e
    rw [if_pos rfl, if_pos hkl, hk]
    show some _ = some _
    unfold movF
    rw [movS_plain (by rw [hs]; exact hc) (up_not h (List.mem_of_getElem? hk)), if_pos hs, if_pos hs]
  · rw [if_neg e]
    cases hy : l[i]? with
    | none => rfl
    | some y =>
      have hne : y.name ≠ s := fun e2 => e (uq_at h.srt.uq hk hy (hs.trans e2.symm))
      show some (if i ∈ T then smI x.sub (if i ∈ F then smI (negV x.sub) y else y) else (if i ∈ F then smI (negV x.sub) y else y)) = some _
      unfold movF
      rw [if_neg hne, if_neg hne]
      have hf := W.from_ i y hy
      have ht := W.to_ i y hy
      by_cases h1 : y.name ∈ upI l p
      · by_cases h2 : y.name ∈ upI l x.parent
        · rw [movS_both h1 h2, if_neg (fun h => (hf.1 h).2 h1), if_neg (fun h => (ht.1 h).2 h2)]
        · rw [movS_up h1 h2, if_neg (fun h => (hf.1 h).2 h1), if_pos (ht.2 ⟨h1, h2⟩)]; rfl
      · by_cases h2 : y.name ∈ upI l x.parent
        · rw [movS_was h1 h2, if_pos (hf.2 ⟨h2, h1⟩), if_neg (fun h => h1 (ht.1 h).1)]; rfl
        · rw [movS_plain h1 h2, if_neg (fun h => h2 (hf.1 h).1), if_neg (fun h => h1 (ht.1 h).1)]
end Go.Proofs.Ytmpakgabehplbaa
namespace Go.Proofs.Ytmpakgabehplbaa
open Go.RowKit
set_option linter.unusedVariables false
set_option linter.unusedSimpArgs false
def NatO (w : World) (B : Nat) (v : Value) (xs : List Nat) : Prop := w.ownsRow B 3 1 v xs.length (natC xs)
theorem NatO.below {w w' : World} {B : Nat} {v : Value} {xs : List Nat} (h : NatO w B v xs) (hb : Below w.heap.size w w') : NatO w' B v xs := own_below h hb
theorem pt_step {l : List I12} {us : List ByteArray} {k : Nat} {t : ByteArray} {j : Nat} (h : us[k]? = some t) (hj : iIdx l t = some j) : ptL l (us.take (k + 1)) = ptL l (us.take k) ++ [j] := by
  unfold ptL
  rw [List.take_add_one, h, List.filterMap_append]
  simp [hj]
theorem pt_len (l : List I12) (us : List ByteArray) : (ptL l us).length ≤ us.length := List.length_filterMap_le ..
section
variable (w : World)
set_option maxHeartbeats 8000000 in
set_option maxRecDepth 100000 in
theorem pway (l : List I12) (lv : Value) (h : IRow w l lv) (hr : RT l) (s : ByteArray) :
    Calls Try.prog 67 #[lv, .string s] w fun e w' => ∃ v, e = .returned v ∧ Below w.heap.size w w' ∧ NatO w' w.heap.size v (ptL l (upI l s)) := by
  have hl : l.length ≤ 120 := hr.len
  obtain ⟨i0, hi0, hz0, hz1, hz2⟩ := info_partsT info_int
  have RU := Lib.hid (show Calls Try.prog 66 #[lv, .string s] w (MadeStrs (upI l s) w) from by
    have := pUp w l lv h (by omega) hr.srt s
    rwa [up_same (hr.up s)] at this)
  have RF := Lib.hid (fun W (hW : Below w.heap.size w W) t => pFind W l lv (h.below hW) (by omega) hr.srt t)
  have UF := Lib.hid (fun t (ht : t ∈ upI l s) => up_found ht)
  have UL := Lib.hid (show (upI l s).length ≤ 120 from by have := hr.up s; omega)
  obtain ⟨ao, cap, rfl⟩ := h.shape
  clear h hr
  generalize upI l s = us at *
  go_enter Try.func67, Try.ntmps67
  go_wp2_with fail
  with_reducible refine RU.out.mono ?_
  rintro e w1 ⟨uv, rfl, hb, ho⟩
  have B1 := Lib.hid hb
  have S1 := Lib.hid ho
  obtain ⟨uo, uc, rfl⟩ := ho.shape
  have u120 : us.length ≤ 120 := UL.out
  clear hb ho RU
  go_wp2_with fail
  go_loopg [5, 12] us.length (fun m pv iv wr => ∃ k : Nat, iv = .int .i64 (k : Int) ∧ us.length - k ≤ m ∧ k ≤ us.length ∧ Below w.heap.size w wr ∧ StrsO wr w.heap.size (.slice uo us.length uc) us ∧ NatO wr w.heap.size pv (ptL l (us.take k)))
  case atStart => exact ⟨0, rfl, Nat.le_refl _, Nat.zero_le _, B1.out, S1.out, (own_none _ _ _ _ : World.ownsRow _ _ _ _ _ _ _)⟩
  case round =>
    obtain ⟨k, rfl, hm, hk, hb, hs, hp⟩ := hrel
    have HM := Lib.hid hm
    have BR := Lib.hid hb
    have SR := Lib.hid hs
    have PR := Lib.hid hp
    clear hm hb hs hp
    by_cases hlt : k < us.length
    · obtain ⟨t, ht⟩ : ∃ t, us[k]? = some t := ⟨_, List.getElem?_eq_getElem hlt⟩
      obtain ⟨j, x, hj, hx, hlk⟩ := UF.out t (List.mem_of_getElem? ht)
      obtain ⟨wu, eb, u0⟩ := SR.out.cell ht
      obtain rfl := eb
      have FE : findI l t = (j : Int) := by unfold findI; rw [hj]
      have RF1 := Lib.hid (RF.out wr BR.out t)
      rw [FE] at RF1
      have STEP := Lib.hid (pt_step (l := l) ht hj)
      have PLN := Lib.hid (show (ptL l (us.take k)).length ≤ 120 from Nat.le_trans (pt_len _ _) (by rw [List.length_take]; omega))
      have z0 : (0 : Int) ≤ (k : Int) := by omega
      have z1 : (k : Int) < (us.length : Int) := by omega
      generalize ptL l (us.take k) = ps at *
      obtain ⟨po, pc, rfl⟩ := own_shape PR.out
      clear hj hx hlk ht FE
      go_wp2_with fail
      with_reducible refine RF1.out.mono ?_
      rintro e w4 ⟨rfl, hb4⟩
      have B4 := Lib.hid (below_tr BR.out hb4)
      have P4 := Lib.hid (NatO.below PR.out hb4)
      have S4 := Lib.hid (StrsO.below SR.out hb4)
      have BX := Lib.hid (below_al (Below.refl w4.heap.size w4) (.cells #[.int .i64 (j : Int)] 3))
      have N4 := Lib.hid (news_new w4 #[.int .i64 (j : Int)] 3)
      have P5 := Lib.hid (NatO.below P4.out BX.out)
      have S5 := Lib.hid (StrsO.below S4.out BX.out)
      have B5 := Lib.hid (below_tr B4.out BX.out)
      clear hb4
      go_wp2_with (at_builtin; refine wpList_append_any _ rfl _ _ 74 rfl w.heap.size 3 i0 (.int .i64 0) 1 8 Try.underlying74 hi0 hz0 hz1 hz2 rfl (by decide) (.slice po ps.length pc) ps.length (natC ps) rfl P5.out (some ⟨w4.heap.size, 0, none⟩) 1 1 [.int .i64 (j : Int)] rfl rfl (fun e => by cases e) (fun ad e => by obtain rfl := Option.some.inj e; exact N4.out) (by simp [Value.oneCell']) (by have := PLN.out; unfold maxLen; omega) (by have := PLN.out; omega) B5.out.size ?_)
      intro v6 w6 hown hgr
      have B6 := Lib.hid (below_grown' B5.out hgr (fun q hq => (World.ownsRow.lt P5.out q hq).1))
      have S6 := Lib.hid (show StrsO w6 w.heap.size (.slice (some ⟨wu, 0, none⟩) us.length uc) us from row_kept S5.out hgr (rows_apart S5.out P5.out (by decide)))
      have P6 := Lib.hid (show NatO w6 w.heap.size v6 (ps ++ [j]) by unfold NatO; rw [List.length_append, natC_app]; exact hown)
      clear hown hgr
      go_wp2_with fail
      go_roundg (us.length - (k + 1))
      case rel => exact ⟨k + 1, by go_num, Nat.le_refl _, hlt, B6.out, S6.out, by rw [STEP.out]; exact P6.out⟩
      case measure => have := HM.out; omega
    · obtain rfl : k = us.length := by omega
      rw [List.take_length] at PR
      obtain ⟨po, pc, rfl⟩ := own_shape PR.out
      go_wp2_with fail
      go_ret
      exact ⟨_, rfl, BR.out, PR.out⟩
end
end Go.Proofs.Ytmpakgabehplbaa
