/- Package shape: changes. -/
import Derived.Test.YtmpakgabehplbaaZhE
namespace Go.Proofs.Ytmpakgabehplbaa
open Go.RowKit
set_option linter.unusedVariables false
set_option linter.unusedSimpArgs false
theorem halfT_at {less : Nat → Bool} {n k : Nat} (hkn : k ≤ n) (hlt : ∀ t, t < k → less t = true) (hge : ∀ t, k ≤ t → t < n → less t = false) : halfT less n 0 n = k := by
  have key : ∀ (f lo hi : Nat), hi - lo ≤ f → lo ≤ k → k ≤ hi → hi ≤ n → halfT less f lo hi = k := by
    intro f
    induction f with
    | zero => intro lo hi h1 h2 h3 h4; simp [halfT]; omega
    | succ f ih =>
      intro lo hi h1 h2 h3 h4
      unfold halfT
      by_cases hlh : lo < hi
      · rw [if_pos hlh]
        by_cases hm : (lo + hi) / 2 < k
        · rw [hlt _ hm, if_pos rfl]; exact ih _ _ (by omega) (by omega) h3 h4
        · rw [hge _ (by omega) (by omega)]
          rw [if_neg (by decide)]
          exact ih _ _ (by omega) h2 (by omega) (by omega)
      · rw [if_neg hlh]; omega
  exact key _ _ _ (by omega) (Nat.zero_le _) hkn (Nat.le_refl _)
theorem place_split {l : List I12} (h : Srt l) (s : ByteArray) : placeT l s ≤ l.length ∧ l.take (placeT l s) = (l.takeWhile fun x => ltS x.name s) ∧ l.drop (placeT l s) = l.dropWhile fun x => ltS x.name s := by
  have e := (List.takeWhile_append_dropWhile (p := fun x : I12 => ltS x.name s) (l := l))
  have hle : (l.takeWhile fun x => ltS x.name s).length ≤ l.length := by
    have := congrArg List.length e
    rw [List.length_append] at this
    omega
  have hk : placeT l s = (l.takeWhile fun x => ltS x.name s).length := by
    unfold placeT
    refine halfT_at hle (fun t ht => ?_) (fun t ht htl => ?_)
    · have h1 : l[t]? = (l.takeWhile fun x => ltS x.name s)[t]? := by
        conv => lhs; rw [← e]
        exact List.getElem?_append_left ht
      have h2 := List.getElem?_eq_getElem ht
      rw [h2] at h1
      have h3 := List.all_eq_true.1 (List.all_takeWhile (p := fun x : I12 => ltS x.name s) (l := l)) _ (List.getElem_mem ht)
      unfold lessT
      rw [nameAt_at h1]
      exact h3
    · have hd : (l.dropWhile fun x => ltS x.name s) ≠ [] := fun e0 => by
        rw [e0, List.append_nil] at e
        rw [e] at ht
        omega
      have hn := List.head_dropWhile_not (fun x : I12 => ltS x.name s) hd
      generalize hA : (l.takeWhile fun x => ltS x.name s) = A at *
      generalize hD : (l.dropWhile fun x => ltS x.name s) = D at *
      cases D with
      | nil => exact absurd rfl hd
      | cons y r =>
        simp only [List.head_cons] at hn
        subst e
        unfold Srt at h
        rw [List.pairwise_append, List.pairwise_cons] at h
        obtain ⟨j, rfl⟩ : ∃ j, t = A.length + j := ⟨t - A.length, by omega⟩
        unfold lessT
        cases j with
        | zero =>
          rw [nameAt_at (x := y) (by rw [List.getElem?_append_right (by omega)]; simp)]
          exact hn
        | succ j =>
          have hj : j < r.length := by simp at htl; omega
          rw [nameAt_at (x := r[j]) (by rw [List.getElem?_append_right (by omega)]; simp [hj])]
          have h5 := h.2.1.1 r[j] (List.getElem_mem hj)
          cases hq : ltS r[j].name s with
          | false => rfl
          | true => exact absurd (ltS_trans h5 hq) (by rw [hn]; decide)
  rw [hk]
  refine ⟨hle, ?_, ?_⟩
  · have h9 := List.take_left' (l₁ := l.takeWhile fun x => ltS x.name s) (l₂ := l.dropWhile fun x => ltS x.name s) rfl
    rw [e] at h9
    exact h9
  · have h9 := List.drop_left' (l₁ := l.takeWhile fun x => ltS x.name s) (l₂ := l.dropWhile fun x => ltS x.name s) rfl
    rw [e] at h9
    exact h9
section
variable (w : World)
set_option maxHeartbeats 8000000 in
set_option maxRecDepth 100000 in
theorem pwith (l : List I12) (lv : Value) (h : IRow w l lv) (hl : l.length ≤ 1000) (hs : Srt l) (x : I12) (hne : ∀ y ∈ l, y.name ≠ x.name) :
    Calls Try.prog 38 #[lv, x.val] w (MadeI ((l.takeWhile fun y => ltS y.name x.name) ++ x :: (l.dropWhile fun y => ltS y.name x.name)) w) := by
  obtain ⟨p1, p2, p3⟩ := place_split hs x.name
  have NE := Lib.hid hne
  have BS := Lib.hid (fun W (hW : Below w.heap.size w W) => pbsearchS W l lv (h.below hW) hl x.name)
  have CL := Lib.hid (fun W (hW : Below w.heap.size w W) => pcloneS W l lv (h.below hW) hl)
  rw [← p2, ← p3]
  obtain ⟨ao, cap, rfl⟩ := h.shape
  have BX := Lib.hid (below_al (Below.refl w.heap.size w) (.cells #[.string x.name, .string x.parent, .int .i64 x.lim.c, .int .i64 x.lim.m, .int .i64 x.lim.p, .int .i64 x.own.c, .int .i64 x.own.m, .int .i64 x.own.p, .int .i64 x.sub.c, .int .i64 x.sub.m, .int .i64 x.sub.p, .int .i64 x.ver] 52))
  have X0 := Lib.hid (IBlk.new w x)
  generalize placeT l x.name = k at *
  generalize foundT l x.name = fd at *
  unfold I12.val I12.cells
  clear h hs hne p2 p3
  go_enter Try.func38, Try.ntmps38
  go_wp2_with fail
  generalize (w.alloc (.cells #[.string x.name, .string x.parent, .int .i64 x.lim.c, .int .i64 x.lim.m, .int .i64 x.lim.p, .int .i64 x.own.c, .int .i64 x.own.m, .int .i64 x.own.p, .int .i64 x.sub.c, .int .i64 x.sub.m, .int .i64 x.sub.p, .int .i64 x.ver] 52)) = w0 at *
  with_reducible refine (BS.out _ BX.out).mono ?_
  rintro e w1 ⟨rfl, hb⟩
  have B1 := Lib.hid (below_tr BX.out hb)
  have X1 := Lib.hid (X0.out.below hb)
  have CL1 := Lib.hid (fun W (hW : Below w1.heap.size w1 W) => CL.out W (below_tr B1.out hW))
  have hxc := X1.out
  unfold IBlk at hxc
  have g0 := (cell_of_row _ _ 0 _ _ _ hxc).trans rfl
  have g1 := (cell_of_row _ _ 1 _ _ _ hxc).trans rfl
  have g2 := (cell_of_row _ _ 2 _ _ _ hxc).trans rfl
  have g3 := (cell_of_row _ _ 3 _ _ _ hxc).trans rfl
  have g4 := (cell_of_row _ _ 4 _ _ _ hxc).trans rfl
  have g5 := (cell_of_row _ _ 5 _ _ _ hxc).trans rfl
  have g6 := (cell_of_row _ _ 6 _ _ _ hxc).trans rfl
  have g7 := (cell_of_row _ _ 7 _ _ _ hxc).trans rfl
  have g8 := (cell_of_row _ _ 8 _ _ _ hxc).trans rfl
  have g9 := (cell_of_row _ _ 9 _ _ _ hxc).trans rfl
  have g10 := (cell_of_row _ _ 10 _ _ _ hxc).trans rfl
  have g11 := (cell_of_row _ _ 11 _ _ _ hxc).trans rfl
  clear hb hxc
  go_upto_region 2 with fail
  refine wp_region_mono_tail 5 (by kernel_rfl) (by kernel_rfl) (Nat.le_of_ble_eq_true (by kernel_rfl)) (by kernel_rfl) ?_
  simp only [List.map_cons, List.map_nil]
  simp only [List.take_succ_cons, List.take_zero, List.drop_succ_cons, List.drop_zero]
  apply wpM_is
  · intro us W hW hg K hK
    clear hg
    simp only [fillA]
    go_simp
    exact hK _ (Below.refl _ _)
  simp only [setD, List.set_cons_zero, List.set_cons_succ]
  refine wpM_any (fun v W => IOwn W w.heap.size l v) (fun v W W' h hb => own_below h hb) ?_ ?_
  · intro us W hW hg K hK
    clear hg
    simp only [fillA]
    go_simp
    (with_reducible refine (CL1.out W hW).mono ?_)
    rintro e w' ⟨v, rfl, hb, ho⟩
    exact hK _ _ (own_lower0 ho (below_tr B1.out hW).size) hb
  simp only [setD, List.set_cons_zero, List.set_cons_succ]
  apply wpM_is
  · intro us W hW hg K hK
    clear hg
    simp only [fillA]
    go_simp
    exact hK _ (Below.refl _ _)
  simp only [setD, List.set_cons_zero, List.set_cons_succ]
  apply wpM_is
  · intro us W hW hg K hK
    clear hg
    have d0 := hold hW g0
    have d1 := hold hW g1
    have d2 := hold hW g2
    have d3 := hold hW g3
    have d4 := hold hW g4
    have d5 := hold hW g5
    have d6 := hold hW g6
    have d7 := hold hW g7
    have d8 := hold hW g8
    have d9 := hold hW g9
    have d10 := hold hW g10
    have d11 := hold hW g11
    simp only [fillA]
    go_simp
    exact hK _ (Below.refl _ _)
  simp only [setD, List.set_cons_zero, List.set_cons_succ]
  refine wpM_any (fun v W => XRow W w.heap.size x v) (fun v W W' h hb => h.below hb) ?_ ?_
  · intro us W hW hg K hK
    clear hg
    simp only [fillA]
    go_simp
    exact hK _ _ ⟨W.heap.size, rfl, (below_tr B1.out hW).size, IBlk.new W x⟩ (below_al (Below.refl _ _) _)
  simp only [setD, List.set_cons_zero, List.set_cons_succ]
  intro us W hW hg
  have h15 := hg 15 _ rfl
  have h18 := hg 18 _ rfl
  simp only [fillA]
  clear hg
  have B2 := Lib.hid (below_tr B1.out hW)
  have PI := Lib.hid (pinsert W w.heap.size (us 15) l x (us 18) k p1 h15 B2.out.size hl h18 NE.out)
  have LT := Lib.hid (fun q hq => (World.ownsRow.lt h15 q hq).1)
  obtain ⟨so, sc, hsv⟩ := (irow_of_own h15).shape
  obtain ⟨xb, hxv, -, -⟩ := h18
  rw [hsv] at PI LT ⊢
  rw [hxv] at PI ⊢
  clear h15 hsv hxv hW
  go_wp2_with fail
  with_reducible refine PI.out.mono ?_
  rintro e w3 ⟨v', rfl, hgr, ho⟩
  have B3 := Lib.hid (below_grown' B2.out hgr LT.out)
  have O3 := Lib.hid ho
  clear hgr ho
  go_wp2_with fail
  go_ret
  exact ⟨_, rfl, B3.out, O3.out⟩
end
end Go.Proofs.Ytmpakgabehplbaa
namespace Go.Proofs.Ytmpakgabehplbaa
open Go.RowKit
set_option linter.unusedVariables false
set_option linter.unusedSimpArgs false
theorem irow_nil0 (w : World) : IRow w [] (.slice none 0 0) := IRow.nil w
set_option maxHeartbeats 8000000 in
set_option maxRecDepth 100000 in
theorem shape_create : CrC := by
  intro w l lv s p v h hr hs hp
  have hl : l.length ≤ 120 := hr.len
  have MN := Lib.hid (fun W => pmayname W s)
  have ML := Lib.hid (fun W => vmay_any W v)
  have PH := Lib.hid (fun W (hW : Below w.heap.size w W) => phas W l lv (h.below hW) (by omega) hr.srt s)
  have PO := Lib.hid (fun W (hW : Below w.heap.size w W) => pholds W l lv (h.below hW) (by omega) hr.srt p)
  have PW := Lib.hid (fun (hn : iIdx l s = none) W (hW : Below w.heap.size w W) => pwith W l lv (h.below hW) (by omega) hr.srt (newI s p v) (fun y hy => iIdx_no hn y hy))
  have CE := Lib.hid (show createE l s p v = if (nameB s && mayV v) = false then 1 else if iIdx l s ≠ none then 3 else if p ≠ ⟨#[]⟩ ∧ iIdx l p = none then 2 else if 120 ≤ l.length then 4 else 0 from rfl)
  have CL := Lib.hid (show createL l s p v = ((l.takeWhile fun y => ltS y.name (newI s p v).name) ++ newI s p v :: (l.dropWhile fun y => ltS y.name (newI s p v).name)) from rfl)
  obtain ⟨ao, cap, rfl⟩ := h.shape
  have B0 := Lib.hid (below_al (Below.refl w.heap.size w) (.cells #[.int .i64 v.c, .int .i64 v.m, .int .i64 v.p] 24))
  have V0 := Lib.hid (CBlk.new w v)
  clear h hr hs hp
  go_enter Try.func13, Try.ntmps13
  go_wp2_with fail
  generalize (w.alloc (.cells #[.int .i64 v.c, .int .i64 v.m, .int .i64 v.p] 24)) = w0 at *
  with_reducible refine (MN.out _).mono ?_
  rintro e1 w1 ⟨rfl, hb⟩
  have B1 := Lib.hid (below_tr B0.out hb)
  have V1 := Lib.hid (V0.out.below hb)
  clear hb
  cases hn : nameB s with
  | false =>
    have R := Lib.hid (show createE l s p v = 1 by rw [CE.out, hn]; rfl)
    clear hn CE
    go_wp2_with fail
    exact bodyPost_ret (v := .tuple #[.slice none 0 0, .int .i64 1]) (by simp [results, Try.results13, go_sem]) rfl ⟨_, by rw [R.out]; rfl, B1.out, by rw [R.out]; exact irow_nil0 _⟩
  | true =>
    obtain ⟨v0, v1, v2, -⟩ := V1.out.cells
    go_wp2_with fail
    cases hm : mayV v with
    | false =>
      have R := Lib.hid (show createE l s p v = 1 by rw [CE.out, hn, hm]; rfl)
      simp only [hm] at ML
      clear hn hm CE
      with_reducible refine (ML.out _).mono ?_
      rintro e2 w2 ⟨rfl, hb⟩
      have B2 := Lib.hid (below_tr B1.out hb)
      clear hb v0 v1 v2
      go_wp2_with fail
      exact bodyPost_ret (v := .tuple #[.slice none 0 0, .int .i64 1]) (by simp [results, Try.results13, go_sem]) rfl ⟨_, by rw [R.out]; rfl, B2.out, by rw [R.out]; exact irow_nil0 _⟩
    | true =>
      have CE2 := Lib.hid (show createE l s p v = if iIdx l s ≠ none then 3 else if p ≠ ⟨#[]⟩ ∧ iIdx l p = none then 2 else if 120 ≤ l.length then 4 else 0 by rw [CE.out, hn, hm]; rfl)
      simp only [hm] at ML
      clear hn hm CE
      with_reducible refine (ML.out _).mono ?_
      rintro e2 w2 ⟨rfl, hb⟩
      have B2 := Lib.hid (below_tr B1.out hb)
      have V2 := Lib.hid (V1.out.below hb)
      clear hb v0 v1 v2
      go_wp2_with fail
      have PH2 := Lib.hid (PH.out _ B2.out)
      cases hi : iIdx l s with
      | some j =>
        have R := Lib.hid (show createE l s p v = 3 by rw [CE2.out, hi]; rfl)
        simp only [hi, Option.isSome_some] at PH2
        clear hi CE2
        with_reducible refine PH2.out.mono ?_
        rintro e3 w3 ⟨rfl, hb⟩
        have B3 := Lib.hid (below_tr B2.out hb)
        clear hb
        go_wp2_with fail
        exact bodyPost_ret (v := .tuple #[.slice none 0 0, .int .i64 3]) (by simp [results, Try.results13, go_sem]) rfl ⟨_, by rw [R.out]; rfl, B3.out, by rw [R.out]; exact irow_nil0 _⟩
      | none =>
        have CE3 := Lib.hid (show createE l s p v = if p ≠ ⟨#[]⟩ ∧ iIdx l p = none then 2 else if 120 ≤ l.length then 4 else 0 by rw [CE2.out, hi]; rfl)
        have PW2 := Lib.hid (PW.out hi)
        simp only [hi, Option.isSome_none] at PH2
        clear hi CE2
        with_reducible refine PH2.out.mono ?_
        rintro e3 w3 ⟨rfl, hb⟩
        have B3 := Lib.hid (below_tr B2.out hb)
        have V3 := Lib.hid (V2.out.below hb)
        clear hb
        go_wp2_with fail
        have PO2 := Lib.hid (PO.out _ B3.out)
        cases hq : (decide (p = ⟨#[]⟩) || (iIdx l p).isSome) with
        | false =>
          have R := Lib.hid (show createE l s p v = 2 by
            rw [Bool.or_eq_false_iff] at hq
            rw [CE3.out, if_pos ⟨of_decide_eq_false hq.1, by cases hj : iIdx l p with | none => rfl | some j => rw [hj] at hq; cases hq.2⟩])
          simp only [hq] at PO2
          clear hq CE3
          with_reducible refine PO2.out.mono ?_
          rintro e4 w4 ⟨rfl, hb⟩
          have B4 := Lib.hid (below_tr B3.out hb)
          clear hb
          go_wp2_with fail
          exact bodyPost_ret (v := .tuple #[.slice none 0 0, .int .i64 2]) (by simp [results, Try.results13, go_sem]) rfl ⟨_, by rw [R.out]; rfl, B4.out, by rw [R.out]; exact irow_nil0 _⟩
        | true =>
          have CE4 := Lib.hid (show createE l s p v = if 120 ≤ l.length then 4 else 0 by
            rw [CE3.out, if_neg]
            rintro ⟨h1, h2⟩
            rw [decide_eq_false h1, h2] at hq
            cases hq)
          simp only [hq] at PO2
          clear hq CE3
          with_reducible refine PO2.out.mono ?_
          rintro e4 w4 ⟨rfl, hb⟩
          have B4 := Lib.hid (below_tr B3.out hb)
          have V4 := Lib.hid (V3.out.below hb)
          clear hb
          by_cases hc : 120 ≤ l.length
          · have R := Lib.hid (show createE l s p v = 4 by rw [CE4.out, if_pos hc])
            clear CE4
            go_wp2_with fail
            exact bodyPost_ret (v := .tuple #[.slice none 0 0, .int .i64 4]) (by simp [results, Try.results13, go_sem]) rfl ⟨_, by rw [R.out]; rfl, B4.out, by rw [R.out]; exact irow_nil0 _⟩
          · have R := Lib.hid (show createE l s p v = 0 by rw [CE4.out, if_neg hc])
            obtain ⟨v0, v1, v2, -⟩ := V4.out.cells
            have PW3 := Lib.hid (PW2.out _ B4.out)
            rw [← CL.out] at PW3
            unfold I12.val I12.cells newI z3 at PW3
            clear CE4
            go_wp2_with fail
            with_reducible refine PW3.out.mono ?_
            rintro e5 w5 ⟨rv, rfl, hb, ho⟩
            have B5 := Lib.hid (below_tr B4.out hb)
            have O5 := Lib.hid (irow_of_own ho)
            clear hb ho v0 v1 v2
            go_wp2_with fail
            exact bodyPost_ret (v := .tuple #[rv, .int .i64 0]) (by simp [results, Try.results13, go_sem]) rfl ⟨_, by rw [R.out]; rfl, B5.out, by rw [R.out]; exact O5.out⟩
end Go.Proofs.Ytmpakgabehplbaa
namespace Go.Proofs.Ytmpakgabehplbaa
open Go.RowKit
set_option linter.unusedVariables false
set_option linter.unusedSimpArgs false
/-- The block of a change. -/
def ChB (w : World) (g : Nat) (a b : Value) : Prop := w.heap[g]? = some (.cells #[a, b] 69 (0, 0))
theorem ChB.lt {w : World} {g : Nat} {a b : Value} (h : ChB w g a b) : g < w.heap.size := (Array.getElem?_eq_some_iff.1 h).1
theorem ChB.cells {w : World} {g : Nat} {a b : Value} (h : ChB w g a b) : w.cell? ⟨g, 0, none⟩ = some a ∧ w.cell? ⟨g, 1, none⟩ = some b := ⟨(cell_of_row _ _ 0 _ _ _ h).trans rfl, (cell_of_row _ _ 1 _ _ _ h).trans rfl⟩
theorem ChB.below {w w' : World} {g : Nat} {a b : Value} (h : ChB w g a b) (hb : Below w.heap.size w w') : ChB w' g a b := (hb.block g h.lt).trans h
theorem ChB.new (w : World) (a b : Value) : ChB (w.alloc (.cells #[a, b] 69)) w.heap.size a b := heap_alloc_new w _
theorem ChB.free {w : World} {g : Nat} {a b : Value} (h : ChB w g a b) (o : Nat) : w.frozen? ⟨g, o, none⟩ = false := by
  unfold ChB at h
  simp [World.frozen?, h]
theorem ChB.set2 {w : World} {g : Nat} {a b : Value} (h : ChB w g a b) (a' b' : Value) : ChB ((w.setCell ⟨g, 0, none⟩ a').setCell ⟨g, 1, none⟩ b') g a' b' := by
  have h0 := heap_setCell_same w g 0 _ _ a' h
  exact heap_setCell_same _ g 1 _ _ b' h0
theorem ChB.setUp {w : World} {g : Nat} {a b : Value} (h : ChB w g a b) (b' : Value) : ChB (w.setCell ⟨g, 1, none⟩ b') g a b' := heap_setCell_same w g 1 _ _ b' h
theorem ChB.kept {w w' : World} {g : Nat} {a b : Value} (h : ChB w g a b) {row : Option Nat} (hg : w.grownBy w' row) (hr : row ≠ some g) : ChB w' g a b := (hg.block g h.lt (fun e => hr e.symm)).trans h
section
variable (w : World)
set_option maxHeartbeats 8000000 in
set_option maxRecDepth 100000 in
theorem pchange_no (l : List I12) (lv : Value) (h : IRow w l lv) (hl : l.length ≤ 1000) (hs : Srt l) (s : ByteArray) (ver : Int) (hE : oldE l s ver ≠ 0) :
    Calls Try.prog 39 #[lv, .string s, .int .i64 ver] w (Made (.tuple #[.agg #[.slice none 0 0, .int .i64 0], .int .i64 (oldE l s ver : Nat)]) w) := by
  have FS := Lib.hid (fun W (hW : Below w.heap.size w W) => pFind W l lv (h.below hW) hl hs s)
  have H := Lib.hid h
  have HE := Lib.hid hE
  obtain ⟨ao, cap, rfl⟩ := h.shape
  have BX := Lib.hid (below_al (Below.refl w.heap.size w) (.cells #[.slice none 0 0, .int .i64 0] 69))
  have C0 := Lib.hid (ChB.new w (.slice none 0 0) (.int .i64 0))
  cases hk : look l s with
  | none =>
    have R := Lib.hid (show oldE l s ver = 2 from by unfold oldE; rw [hk])
    rw [find_none hk] at FS
    clear h hk hs hE HE
    go_enter Try.func39, Try.ntmps39
    go_wp2_with fail
    generalize (w.alloc (.cells #[.slice none 0 0, .int .i64 0] 69)) = w0 at *
    with_reducible refine (FS.out _ BX.out).mono ?_
    rintro e w1 ⟨rfl, hb⟩
    have B1 := Lib.hid (below_tr BX.out hb)
    have C1 := Lib.hid (C0.out.below hb)
    have f0 := C1.out.free 0
    have f1 := C1.out.free 1
    obtain ⟨b0, b1⟩ := C1.out.cells
    clear hb
    go_wp2_with fail
    have SF := C1.out.set2 (.slice none 0 0) (.int .i64 0)
    have BF := Lib.hid (below_set2 B1.out (Nat.le_refl w.heap.size) (.slice none 0 0) (.int .i64 0))
    obtain ⟨c0, c1⟩ := SF.cells
    exact bodyPost_ret (v := .tuple #[.agg #[.slice none 0 0, .int .i64 0], .int .i64 2]) (by simp [results, Try.results39, go_sem, c0, c1]) rfl ⟨by rw [R.out]; rfl, BF.out⟩
  | some x =>
    have R0 := show oldE l s ver = if 0 ≤ ver ∧ x.ver ≠ ver then 14 else 0 from by unfold oldE; rw [hk]
    by_cases hv : 0 ≤ ver ∧ x.ver ≠ ver
    · have R := Lib.hid (show oldE l s ver = 14 from by rw [R0, if_pos hv])
      obtain ⟨hv0, hv1⟩ := hv
      obtain ⟨k, hf, hx⟩ := find_at hk
      rw [hf] at FS
      obtain ⟨g, o, rfl, hat⟩ := H.out.atP hx
      have k11 := hold BX.out hat.c11
      have kl : k < l.length := (List.getElem?_eq_some_iff.1 hx).1
      have y0 : (0 : Int) ≤ (k : Int) := by omega
      have y1 : (k : Int) < (l.length : Int) := by omega
      have ne : (ver == x.ver) = false := beq_false_of_ne (fun e => hv1 e.symm)
      have ne' : (ver != x.ver) = true := by rw [bne, ne]; rfl
      have nev : ¬ ver = x.ver := fun e => hv1 e.symm
      clear h hk hs hE HE hat hx hf R0 hv1
      go_enter Try.func39, Try.ntmps39
      go_wp2_with fail
      generalize (w.alloc (.cells #[.slice none 0 0, .int .i64 0] 69)) = w0 at *
      with_reducible refine (FS.out _ BX.out).mono ?_
      rintro e w1 ⟨rfl, hb⟩
      have B1 := Lib.hid (below_tr BX.out hb)
      have C1 := Lib.hid (C0.out.below hb)
      replace k11 := hold hb k11
      have f0 := C1.out.free 0
      have f1 := C1.out.free 1
      obtain ⟨b0, b1⟩ := C1.out.cells
      clear hb
      go_wp2_with fail
      have SF := C1.out.set2 (.slice none 0 0) (.int .i64 0)
      have BF := Lib.hid (below_set2 B1.out (Nat.le_refl w.heap.size) (.slice none 0 0) (.int .i64 0))
      obtain ⟨c0, c1⟩ := SF.cells
      exact bodyPost_ret (v := .tuple #[.agg #[.slice none 0 0, .int .i64 0], .int .i64 14]) (by simp [results, Try.results39, go_sem, c0, c1]) rfl ⟨by rw [R.out]; rfl, BF.out⟩
    · exact absurd (by rw [R0, if_neg hv]) hE
/-- A change that may be: a row of its own, the place of the one. -/
def ChT (l : List I12) (s : ByteArray) (w : World) : Ending → World → Prop := fun e w' => ∃ g cap k x, e = .returned (.tuple #[.agg #[.slice (some ⟨g, 0, none⟩) l.length cap, .int .i64 ((k : Nat) : Int)], .int .i64 0]) ∧ Below w.heap.size w w' ∧ IOwn w' w.heap.size l (.slice (some ⟨g, 0, none⟩) l.length cap) ∧ l[k]? = some x ∧ look l s = some x
set_option maxHeartbeats 8000000 in
set_option maxRecDepth 100000 in
theorem pchange_ok (l : List I12) (lv : Value) (h : IRow w l lv) (hl : l.length ≤ 1000) (hs : Srt l) (s : ByteArray) (ver : Int) (hE : oldE l s ver = 0) :
    Calls Try.prog 39 #[lv, .string s, .int .i64 ver] w (ChT l s w) := by
  have FS := Lib.hid (fun W (hW : Below w.heap.size w W) => pFind W l lv (h.below hW) hl hs s)
  have CL := Lib.hid (fun W (hW : Below w.heap.size w W) => pcloneJ W l lv (h.below hW) hl)
  have H := Lib.hid h
  obtain ⟨ao, cap, rfl⟩ := h.shape
  have BX := Lib.hid (below_al (Below.refl w.heap.size w) (.cells #[.slice none 0 0, .int .i64 0] 69))
  have C0 := Lib.hid (ChB.new w (.slice none 0 0) (.int .i64 0))
  obtain ⟨x, hk, -⟩ := old_look hE
  have HK := Lib.hid hk
  have R0 := show oldE l s ver = if 0 ≤ ver ∧ x.ver ≠ ver then 14 else 0 from by unfold oldE; rw [hk]
  have hv : ¬ (0 ≤ ver ∧ x.ver ≠ ver) := fun hv => by rw [hE, if_pos hv] at R0; cases R0
  obtain ⟨k, hf, hx⟩ := find_at hk
  have HX := Lib.hid hx
  rw [hf] at FS
  obtain ⟨g, o, rfl, hat⟩ := H.out.atP hx
  have k11 := hold BX.out hat.c11
  have kl : k < l.length := (List.getElem?_eq_some_iff.1 hx).1
  have y0 : (0 : Int) ≤ (k : Int) := by omega
  have y1 : (k : Int) < (l.length : Int) := by omega
  clear h hk hs hE hat hx hf R0
  go_enter Try.func39, Try.ntmps39
  go_wp2_with fail
  generalize (w.alloc (.cells #[.slice none 0 0, .int .i64 0] 69)) = w0 at *
  with_reducible refine (FS.out _ BX.out).mono ?_
  rintro e w1 ⟨rfl, hb⟩
  have B1 := Lib.hid (below_tr BX.out hb)
  have C1 := Lib.hid (C0.out.below hb)
  replace k11 := hold hb k11
  clear hb
  go_upto_region 4 with fail
  go_cut [25] (fun z wx => z = .bool false ∧ wx = w1)
  case first =>
    by_cases hv0 : 0 ≤ ver
    · obtain hv1 : x.ver = ver := Decidable.not_not.1 (fun e => hv ⟨hv0, e⟩)
      have ne : (ver == x.ver) = true := by rw [hv1]; exact beq_self_eq_true _
      have ne' : (ver != x.ver) = false := by rw [bne, ne]; rfl
      clear hv hv1
      go_wp2_with fail
      go_meet
      case rel => exact ⟨rfl, rfl⟩
    · clear hv
      go_wp2_with fail
      go_meet
      case rel => exact ⟨rfl, rfl⟩
  case rest =>
  obtain ⟨rfl, rfl⟩ := hcut
  have CL1 := Lib.hid (CL.out _ B1.out)
  go_wp2_with fail
  with_reducible refine CL1.out.mono ?_
  rintro e w2 ⟨rv, rfl, hb, ho⟩
  have B2 := Lib.hid (below_tr B1.out hb)
  have C2 := Lib.hid (C1.out.below hb)
  have O2 := own_lower0 ho B1.out.size
  have f0 := C2.out.free 0
  have f1 := C2.out.free 1
  obtain ⟨b0, b1⟩ := C2.out.cells
  obtain ⟨g2, cap2, rfl⟩ : ∃ g2 cap2, rv = .slice (some ⟨g2, 0, none⟩) l.length cap2 := by
    rcases ho.2 with ⟨_, h0⟩ | ⟨g2, cap2, cur, e2, -⟩
    · omega
    · exact ⟨g2, cap2, e2⟩
  have OF := Lib.hid O2
  have GB := Lib.hid (iblk_at ho).1
  have GW := Lib.hid (World.ownsRow.lt ho g2 rfl).1
  have CW := Lib.hid C1.out.lt
  clear hb ho O2
  go_wp2_with fail
  have SF := C2.out.set2 (.slice (some ⟨g2, 0, none⟩) l.length cap2) (.int .i64 (k : Int))
  have BF := Lib.hid (below_set2 B2.out (Nat.le_refl w.heap.size) (.slice (some ⟨g2, 0, none⟩) l.length cap2) (.int .i64 (k : Int)))
  have gne : (Value.slice (some ⟨g2, 0, none⟩) l.length cap2).ownBlock ≠ some w.heap.size := fun e => by
    have h1 := GW.out; have h2 := CW.out
    simp only [Value.ownBlock, Option.some.injEq] at e
    omega
  have OF2 := Lib.hid (show IOwn ((w2.setCell ⟨w.heap.size, 0, none⟩ (.slice (some ⟨g2, 0, none⟩) l.length cap2)).setCell ⟨w.heap.size, 1, none⟩ (.int .i64 (k : Int))) w.heap.size l (.slice (some ⟨g2, 0, none⟩) l.length cap2) from ownsRow_setCell_other (ownsRow_setCell_other OF.out gne _) gne _)
  obtain ⟨c0, c1⟩ := SF.cells
  exact bodyPost_ret (v := .tuple #[.agg #[.slice (some ⟨g2, 0, none⟩) l.length cap2, .int .i64 (k : Int)], .int .i64 0]) (by simp [results, Try.results39, go_sem, c0, c1]) rfl ⟨g2, cap2, k, x, rfl, BF.out, OF2.out, HX.out, HK.out⟩
end
end Go.Proofs.Ytmpakgabehplbaa
