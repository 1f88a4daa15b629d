/- Package shape: Do, by the four. -/
import Derived.Test.YtmpakgabehplbaaZhI
namespace Go.Proofs.Ytmpakgabehplbaa
open Go.RowKit
set_option linter.unusedVariables false
set_option linter.unusedSimpArgs false
/-- clear, of elements of any size. -/
theorem run_clearN {P : Program} (w : World) (t ty elem : TypeId) (i : TypeInfo) (z : Value) (hu : P.underlying t = some (.slice elem)) (hi : P.info? elem = some i) (hz : i.zero = some z) (g o n c : Nat) (hn : 0 < n) (cur : Array Value) (e : TypeId)
    (hg : w.heap[g]? = some (.cells cur e (0, 0))) (hfit : o + n * z.cells.size ≤ cur.size) (h1 : ∀ v ∈ (Builtin.zeroCells z.cells n).toList, v.oneCell' = true) :
    (Builtin.clear_ #[t] ty #[.slice (some ⟨g, o, none⟩) n c]).run P w = .ok (.tuple #[]) (w.setRow g (cur.toList.take o ++ (Builtin.zeroCells z.cells n).toList ++ cur.toList.drop (o + (Builtin.zeroCells z.cells n).toList.length)).toArray) := by
  have hst := run_storeCells_at P g o e (Builtin.zeroCells z.cells n).toList 0 cur w hg (by simp only [Nat.add_zero, Array.length_toList, size_zeroCells]; exact hfit) h1
  obtain ⟨m, rfl⟩ : ∃ m, n = m + 1 := ⟨n - 1, by omega⟩
  simp only [Nat.add_zero] at hst
  simp [Builtin.clear_, run_underlying hu, zeroValue, typeInfo, hi, hz, hst]
theorem wpList_builtin_as {P : Program} (w : World) {ops : Array Oper} {rest : List Oper} {o : Oper} {a : Act} {Q : Exit → Act → World → Prop} (hgd : o.guard = none) (d : Operand) (t : TypeId)
    (ho : o.op = .call { callee := .builtin .clear, args := #[d], argTypes := #[t] }) (v : Value) (hd : a.eval d = v) {v' : Value} {w' : World}
    (hr : (Builtin.clear_ #[t] o.type #[v]).run P w = .ok v' w') (h : wpList P ops Q rest (a.put o.dst v') w') : wpList P ops Q (o :: rest) a w := by
  refine wpList_plain hgd fun K hK => ?_
  unfold Oper.wp execOp
  simp only [ho, resolve, invoke, builtin, Sem.run_bind, Sem.run_pure, Result.andThen_ok, List.map_toArray, List.map_cons, List.map_nil, hd, hr]
  exact hK _ _ h
section
variable (w : World)
set_option maxHeartbeats 8000000 in
set_option maxRecDepth 100000 in
theorem pdel (B g cap : Nat) (l : List I12) (k : Nat) (hk : k < l.length) (ho : IOwn w B l (.slice (some ⟨g, 0, none⟩) l.length cap)) (hl : l.length ≤ 1000) :
    Calls Try.prog 49 #[.slice (some ⟨g, 0, none⟩) l.length cap, .int .i64 (k : Int), .int .i64 ((k : Int) + 1)] w fun e w' => ∃ v', e = .returned v' ∧ w.grownBy w' (some g) ∧ IOwn w' B (l.take k ++ l.drop (k + 1)) v' := by
  obtain ⟨i0, hi0, hz0, hz1, hz2⟩ := info_partsT info_item
  obtain ⟨hlen, hsh⟩ := ho
  rcases hsh with ⟨e, -⟩ | ⟨g', cap', cur, e, hb, hg, hnc, hcm, hcs, htake⟩
  · cases e
  simp only [Value.slice.injEq, Option.some.injEq, Addr.mk.injEq, and_true, true_and] at e
  obtain ⟨rfl, rfl⟩ := e
  have hcl : cur.toList.length = cap * 12 := by rw [Array.length_toList]; exact hcs
  have hcA : cur.toList.take (k * 12) = i12s (l.take k) := by
    rw [← take_app (by omega), ← htake, List.take_take]
    congr 1; omega
  have hDl : (i12s (l.drop (k + 1))).length = (l.length - (k + 1)) * 12 := by rw [i12s_len, List.length_drop]
  obtain ⟨R1, hR1⟩ : ∃ R1 : List Value, R1 = cur.toList.take (k * 12) ++ i12s (l.drop (k + 1)) ++ cur.toList.drop (k * 12 + (i12s (l.drop (k + 1))).length) := ⟨_, rfl⟩
  have hR1l : R1.length = cap * 12 := by
    rw [hR1]; simp only [List.length_append, List.length_take, List.length_drop, hcl, hDl]; omega
  have hR1t : R1.take ((l.length - 1) * 12) = i12s (l.take k ++ l.drop (k + 1)) := by
    rw [hR1, hcA, i12s_app, List.take_append_of_le_length (by simp only [List.length_append, i12s_len, List.length_take, List.length_drop]; omega), List.take_of_length_le (by simp only [List.length_append, i12s_len, List.length_take, List.length_drop]; omega)]
  have hap : ∀ (W : World) (a : Addr) (c : Nat), W.heap[g]? = some (.cells cur 52 (0, 0)) → (l.length - (k + 1) = 0 ∨ a = ⟨g, (k + 1) * 12, none⟩) → ∀ ty, (Builtin.append_ #[66, 66] ty #[.slice (some ⟨g, 0, none⟩) k cap, .slice (some a) (l.length - (k + 1)) c]).run Try.prog W =
      .ok (.slice (some ⟨g, 0, none⟩) (l.length - 1) cap) (W.setRow g R1.toArray) := fun W a c h1 h2 ty => by
    have h := run_append_room (P := Try.prog) W 66 ty 52 i0 Try.underlying66 hi0 g k cap cur h1 a (l.length - (k + 1)) c (i12s (l.drop (k + 1))) (by rw [hz1]; exact hDl)
      (fun j u hj => by
        rcases h2 with h2 | h2
        · rw [h2, Nat.zero_mul] at hDl
          rw [List.eq_nil_of_length_eq_zero hDl] at hj
          simp at hj
        · subst h2
          rw [Addr.add_lit, cell_of_row _ _ _ _ _ _ h1]
          rw [← drop_app (by omega), List.getElem?_drop, ← htake, List.getElem?_take] at hj
          split at hj
          · simpa using hj
          · cases hj) (i12s_one _) (by omega) (by rw [hz1, hDl, hcs]; omega)
    rw [hz1, ← hR1, show k + (l.length - (k + 1)) = l.length - 1 by omega] at h
    exact h
  obtain ⟨Z, hZ⟩ : ∃ Z, Z = (Builtin.zeroCells (I12.val ⟨⟨#[]⟩, ⟨#[]⟩, z3, z3, z3, 0⟩).cells 1).toList := ⟨_, rfl⟩
  have hZl : Z.length = 12 := by rw [hZ]; show (Builtin.zeroCells _ _).size = 12; rw [size_zeroCells]; rfl
  have hcr : ∀ (W : World), W.heap[g]? = some (.cells R1.toArray 52 (0, 0)) → ∀ ty, (Builtin.clear_ #[66] ty #[.slice (some ⟨g, (l.length - 1) * 12, none⟩) 1 (cap - (l.length - 1))]).run Try.prog W = .ok (.tuple #[]) (W.setRow g (R1.take ((l.length - 1) * 12) ++ Z ++ R1.drop ((l.length - 1) * 12 + Z.length)).toArray) := fun W h1 ty => by
    have h := run_clearN (P := Try.prog) W 66 ty 52 i0 _ Try.underlying66 hi0 hz0 g ((l.length - 1) * 12) 1 (cap - (l.length - 1)) (by omega) R1.toArray 52 h1 (by
      show (l.length - 1) * 12 + 1 * 12 ≤ _
      rw [List.size_toArray, hR1l]; omega) (by decide +kernel)
    rw [hZ]
    exact h
  have hR1c : l.length - (k + 1) = 0 → R1.toArray = cur := fun h0 => by
    rw [h0, Nat.zero_mul] at hDl
    rw [hR1, List.eq_nil_of_length_eq_zero hDl, List.append_nil, List.length_nil, Nat.add_zero, List.take_append_drop]
  have R1C := Lib.hid hR1c
  have HAP := Lib.hid hap
  have HCR := Lib.hid hcr
  have HG := Lib.hid hg
  have R1L := Lib.hid hR1l
  have R1T := Lib.hid hR1t
  have ZL := Lib.hid hZl
  have HB := Lib.hid hb
  have HM := Lib.hid hcm
  have HN := Lib.hid hnc
  have c63 : cap ≤ 9223372036854775807 := by unfold maxLen at hcm; omega
  have y0 : (0 : Int) ≤ (k : Int) := by omega
  have y1 : (k : Int) ≤ (k : Int) + 1 := by omega
  have y2 : (k : Int) + 1 ≤ (l.length : Int) := by omega
  have y3 : ((k : Int) + 1).toNat = k + 1 := by omega
  have y4 : ¬ ((k : Int) = (k : Int) + 1) := by omega
  have y5 : (k : Int) ≤ (cap : Int) := by omega
  have y6 : (0 : Int) ≤ (k : Int) + 1 := by omega
  have y7 : l.length - (l.length - 1) = 1 := by omega
  have y8 : ¬ (cap = l.length - 1) := by omega
  have y9 : ((l.length - 1 : Nat) : Int) ≤ (l.length : Int) := by omega
  have y10 : (l.length : Int) ≤ (cap : Int) := by omega
  have y11 : (0 : Int) ≤ ((l.length - 1 : Nat) : Int) := by omega
  clear hg hlen htake hcs hDl hR1 hR1l hR1t hR1c hap hcr hb hcm hcl hcA hZ hZl
  have y12 : ((k : Int) == (k : Int) + 1) = false := beq_false_of_ne (by omega)
  by_cases hc : cap = k + 1
  · have hlk : l.length = k + 1 := by have := HN.out; omega
    have LE := Lib.hid (show ∀ m : List I12, m = l → m.length = k + 1 from fun m e => by rw [e]; exact hlk)
    generalize l.length = n at *
    subst hlk
    subst hc
    go_enter Try.func49, Try.ntmps49
    go_wp2_with fail
    refine wp_region_mono_tail 6 (by kernel_rfl) (by kernel_rfl) (Nat.le_of_ble_eq_true (by kernel_rfl)) (by kernel_rfl) ?_
    simp only [List.map_cons, List.map_nil]
    simp only [List.take_succ_cons, List.take_zero, List.drop_succ_cons, List.drop_zero]
    repeat (first
      | (apply wpM_is
         · (intro us W hW hg K hK
            clear hg
            simp only [fillA]
            go_simp
            first
            | exact hK _ (Below.refl _ _))
         simp only [setD, List.set_cons_zero, List.set_cons_succ]))
    intro us W hW hg
    simp only [fillA]
    clear hg
    have HW := Lib.hid hW
    have KH := Lib.hid ((hW.block _ (Array.getElem?_eq_some_iff.1 HG.out).1).trans HG.out)
    clear hW
    have KH1 := Lib.hid (show W.heap[g]? = some (.cells R1.toArray 52 (0, 0)) by rw [R1C.out (by omega)]; exact KH.out)
    have RC := HCR.out W KH1.out
    simp only [Nat.add_sub_cancel, Nat.add_sub_cancel_left] at RC
    go_wp2_with (at_builtin; refine wpList_builtin_as _ rfl _ 66 rfl _ rfl (RC _) ?_)
    go_ret
    refine ⟨_, rfl, ?_, ?_⟩
    · have h2 := HW.out
      have h3 : w.heap.size ≤ W.heap.size := h2.size
      refine ⟨?_, ?_, ?_, ?_, fun j hj hr => ?_⟩
      · simp only [setRow_os]; exact h2.os
      · simp only [setRow_tape]; exact h2.tape
      · simp only [setRow_output]; exact h2.output
      · simp only [setRow_size]; omega
      · have hjg : j ≠ g := fun e => hr (by rw [e])
        simp only [setRow_other _ _ _ _ hjg]
        exact h2.block j hj
    · have hLE := LE.out l rfl
      have e1 : (l.take k ++ l.drop (k + 1)).length = k + 1 - 1 := by simp only [List.length_append, List.length_take, List.length_drop]; omega
      unfold IOwn
      rw [e1, ← R1T.out]
      have hZ12 := ZL.out
      have hR := R1L.out
      have hn := HN.out
      refine ⟨?_, .inr ⟨g, _, _, rfl, HB.out, setRow_heap _ _ _ _ _ _ KH1.out, ?_, HM.out, ?_, ?_⟩⟩
      · simp only [List.length_take, hR]; omega
      · omega
      · rw [List.size_toArray]
        simp only [List.length_append, List.length_take, List.length_drop, hR, hZ12]
        omega
      · simp only [List.append_assoc]
        rw [List.take_append_of_le_length (by rw [List.length_take, hR]; omega), List.take_take]
        congr 1
        omega
  · have hc2 : ¬ (cap = k + 1) := hc
    go_enter Try.func49, Try.ntmps49
    go_wp2_with fail
    refine wp_region_mono_tail 6 (by kernel_rfl) (by kernel_rfl) (Nat.le_of_ble_eq_true (by kernel_rfl)) (by kernel_rfl) ?_
    simp only [List.map_cons, List.map_nil]
    simp only [List.take_succ_cons, List.take_zero, List.drop_succ_cons, List.drop_zero]
    repeat (first
      | (apply wpM_is
         · (intro us W hW hg K hK
            clear hg
            simp only [fillA]
            go_simp
            first
            | exact hK _ (Below.refl _ _))
         simp only [setD, List.set_cons_zero, List.set_cons_succ]))
    intro us W hW hg
    simp only [fillA]
    clear hg
    have HW := Lib.hid hW
    have KH := Lib.hid ((hW.block _ (Array.getElem?_eq_some_iff.1 HG.out).1).trans HG.out)
    clear hW
    have RA := HAP.out W ⟨g, (k + 1) * 12, none⟩ (cap - (k + 1)) KH.out (.inr rfl)
    obtain ⟨W1, hW1⟩ : ∃ W1, W1 = W.setRow g R1.toArray := ⟨_, rfl⟩
    have KH1 := Lib.hid (show W1.heap[g]? = some (.cells R1.toArray 52 (0, 0)) by rw [hW1]; exact setRow_heap W _ _ _ _ _ KH.out)
    have E1 := Lib.hid hW1
    rw [← hW1] at RA
    have RC := HCR.out W1 KH1.out
    clear hW1
    go_wp2_with (first
      | (at_builtin; refine Lib.wpList_append_run _ rfl _ _ _ _ rfl _ _ rfl rfl _ _ (RA _) ?_)
      | (at_builtin; refine wpList_builtin_as _ rfl _ 66 rfl _ rfl (RC _) ?_))
    go_ret
    refine ⟨_, rfl, ?_, ?_⟩
    · have h2 := HW.out
      have h3 : w.heap.size ≤ W.heap.size := h2.size
      rw [E1.out]
      refine ⟨?_, ?_, ?_, ?_, fun j hj hr => ?_⟩
      · simp only [setRow_os]; exact h2.os
      · simp only [setRow_tape]; exact h2.tape
      · simp only [setRow_output]; exact h2.output
      · simp only [setRow_size]; omega
      · have hjg : j ≠ g := fun e => hr (by rw [e])
        simp only [setRow_other _ _ _ _ hjg]
        exact h2.block j hj
    · have e1 : (l.take k ++ l.drop (k + 1)).length = l.length - 1 := by simp only [List.length_append, List.length_take, List.length_drop]; omega
      unfold IOwn
      rw [e1, ← R1T.out]
      have hZ12 := ZL.out
      have hR := R1L.out
      have hn := HN.out
      refine ⟨?_, .inr ⟨g, _, _, rfl, HB.out, setRow_heap _ _ _ _ _ _ KH1.out, ?_, HM.out, ?_, ?_⟩⟩
      · simp only [List.length_take, hR]; omega
      · omega
      · rw [List.size_toArray]
        simp only [List.length_append, List.length_take, List.length_drop, hR, hZ12]
        omega
      · simp only [List.append_assoc]
        rw [List.take_append_of_le_length (by rw [List.length_take, hR]; omega), List.take_take]
        congr 1
        omega
end
end Go.Proofs.Ytmpakgabehplbaa
namespace Go.Proofs.Ytmpakgabehplbaa
open Go.RowKit
set_option linter.unusedVariables false
set_option linter.unusedSimpArgs false
/-- What lies in memory while a change is under way: the row, the block of the change. -/
structure ChAt (w wr : World) (L : List I12) (g cap n k bc : Nat) : Prop where
  below : Below w.heap.size w wr
  own : IOwn wr w.heap.size L (.slice (some ⟨g, 0, none⟩) n cap)
  ch : ChB wr bc (.slice (some ⟨g, 0, none⟩) n cap) (.int .i64 (k : Int))
theorem ChAt.next {w wr W : World} {L : List I12} {g cap n k bc : Nat} (M : ChAt w wr L g cap n k bc) (hb : Below wr.heap.size wr W) : ChAt w W L g cap n k bc :=
  ⟨below_tr M.below hb, own_below M.own hb, M.ch.below hb⟩
theorem ch_apart {w : World} {B g n cap f : Nat} {l : List I12} {a b : Value} (h : IOwn w B l (.slice (some ⟨g, 0, none⟩) n cap)) (hs : ChB w f a b) : f ≠ g := by
  rintro rfl
  obtain ⟨-, cur, hg⟩ := iblk_at h
  unfold ChB at hs
  rw [hs] at hg
  simp only [Option.some.injEq, Obj.cells.injEq] at hg
  exact absurd hg.2.1 (by decide)
theorem ChAt.set3 {w W : World} {L : List I12} {g cap n k bc : Nat} (M : ChAt w W L g cap n k bc) {j : Nat} {x y : I12} (hk : L[j]? = some x) (r : Nat) (hr : r + 2 < 12) (a b c : Value) (hy : y.cells = ((x.cells.set r a).set (r + 1) b).set (r + 2) c) :
    ChAt w (((W.setCell ⟨g, j * 12 + r, none⟩ a).setCell ⟨g, j * 12 + r + 1, none⟩ b).setCell ⟨g, j * 12 + r + 2, none⟩ c) (L.set j y) g cap n k bc := by
  have lb := (iblk_at M.own).1
  have ng := ch_apart M.own M.ch
  exact ⟨((M.below.setCell lb _).setCell lb _).setCell lb _, M.own.set3 hk r hr a b c hy, (heap_set3 W g _ _ _ _ _ _ ng).trans M.ch⟩
theorem ChAt.set1 {w W : World} {L : List I12} {g cap n k bc : Nat} (M : ChAt w W L g cap n k bc) {j : Nat} {x y : I12} (hk : L[j]? = some x) (r : Nat) (hr : r < 12) (a : Value) (hy : y.cells = x.cells.set r a) :
    ChAt w (W.setCell ⟨g, j * 12 + r, none⟩ a) (L.set j y) g cap n k bc := by
  have lb := (iblk_at M.own).1
  have ng := ch_apart M.own M.ch
  exact ⟨M.below.setCell lb _, M.own.set1 hk r hr a hy, (heap_setCell_other W ⟨g, j * 12 + r, none⟩ bc a (fun e => ng e)).trans M.ch⟩
theorem lim_set {l : List I12} (hu : Uq l) {k : Nat} {x : I12} (hk : l[k]? = some x) {s : ByteArray} (hn : x.name = s) (v : V3) : (l.set k ⟨x.name, x.parent, v, x.own, x.sub, x.ver⟩).set k ⟨x.name, x.parent, v, x.own, x.sub, x.ver + 1⟩ = limL l s v := by
  rw [List.set_set]
  unfold limL
  rw [← set_map hu hk (g := limF s v) (fun y hy hne => by unfold limF; rw [hn] at hne; rw [if_neg hne, if_neg hne])]
  congr 1
  unfold limF
  rw [if_pos hn, if_pos hn]
set_option maxHeartbeats 8000000 in
set_option maxRecDepth 100000 in
theorem shape_limit : LiC := by
  intro w l lv s v ver h hr hs
  have hl : l.length ≤ 120 := hr.len
  have ML := Lib.hid (fun W => vmay_any W v)
  have CN := Lib.hid (fun (hE : oldE l s ver ≠ 0) W (hW : Below w.heap.size w W) => pchange_no W l lv (h.below hW) (by omega) hr.srt s ver hE)
  have CO := Lib.hid (fun (hE : oldE l s ver = 0) W (hW : Below w.heap.size w W) => pchange_ok W l lv (h.below hW) (by omega) hr.srt s ver hE)
  have AE := Lib.hid (show limE l s v ver = if mayV v = false then 1 else if oldE l s ver ≠ 0 then oldE l s ver else if 9007199254740992 ≤ (itAt l s).ver then 4 else if leV (itAt l s).sub v = false then 12 else 0 from rfl)
  obtain ⟨ao, cap, rfl⟩ := h.shape
  have B0 := Lib.hid (below_al (Below.refl w.heap.size w) (.cells #[.int .i64 v.c, .int .i64 v.m, .int .i64 v.p] 24))
  have V0 := Lib.hid (CBlk.new w v)
  have HR := Lib.hid hr
  obtain ⟨v0, v1, v2, -⟩ := V0.out.cells
  clear h hr hs
  go_enter Try.func14, Try.ntmps14
  go_wp2_with fail
  generalize (w.alloc (.cells #[.int .i64 v.c, .int .i64 v.m, .int .i64 v.p] 24)) = w0 at *
  cases hm : mayV v with
  | false =>
    have R := Lib.hid (show limE l s v ver = 1 by rw [AE.out, hm]; rfl)
    simp only [hm] at ML
    clear hm AE
    with_reducible refine (ML.out _).mono ?_
    rintro e2 w2 ⟨rfl, hb⟩
    have B2 := Lib.hid (below_tr B0.out hb)
    clear hb v0 v1 v2
    go_wp2_with fail
    exact bodyPost_ret (v := .tuple #[.slice none 0 0, .int .i64 1]) (by simp [results, Try.results14, go_sem]) rfl ⟨_, by rw [R.out]; rfl, B2.out, by rw [R.out]; exact irow_nil0 _⟩
  | true =>
    have AE1 := Lib.hid (show limE l s v ver = if oldE l s ver ≠ 0 then oldE l s ver else if 9007199254740992 ≤ (itAt l s).ver then 4 else if leV (itAt l s).sub v = false then 12 else 0 by rw [AE.out, hm]; rfl)
    simp only [hm] at ML
    have HM := Lib.hid hm
    clear hm AE
    with_reducible refine (ML.out _).mono ?_
    rintro e2 w2 ⟨rfl, hb⟩
    have B2 := Lib.hid (below_tr B0.out hb)
    have V2 := Lib.hid (V0.out.below hb)
    clear hb v0 v1 v2
    go_wp2_with fail
    by_cases hE : oldE l s ver ≠ 0
    · have R := Lib.hid (show limE l s v ver = oldE l s ver by rw [AE1.out, if_pos hE])
      have CN1 := Lib.hid (CN.out hE _ B2.out)
      have ne : ((oldE l s ver : Nat) : Int) ≠ 0 := by omega
      have RN := Lib.hid hE
      generalize oldE l s ver = E at *
      clear hE
      with_reducible refine CN1.out.mono ?_
      rintro e3 w3 ⟨rfl, hb⟩
      have B3 := Lib.hid (below_tr B2.out hb)
      have B4 := Lib.hid (below_al B3.out (.cells #[.slice none 0 0, .int .i64 0] 69))
      clear hb
      go_wp2_with fail
      exact bodyPost_ret (v := .tuple #[.slice none 0 0, .int .i64 (E : Int)]) (by simp [results, Try.results14, go_sem]) rfl ⟨_, by rw [R.out], B4.out, by rw [R.out, if_neg RN.out]; exact irow_nil0 _⟩
    · have hE0 : oldE l s ver = 0 := Decidable.not_not.1 hE
      obtain ⟨x0, hx0, ex⟩ := old_look hE0
      have AE2 := Lib.hid (show limE l s v ver = if 9007199254740992 ≤ x0.ver then 4 else if leV x0.sub v = false then 12 else 0 by rw [AE1.out, if_neg hE, ex])
      have CO1 := Lib.hid (CO.out hE0 _ B2.out)
      clear hE hE0 ex AE1
      with_reducible refine CO1.out.mono ?_
      rintro e3 w3 ⟨g, cp, k, x, rfl, hb, ho, hk, hlk⟩
      obtain rfl : x0 = x := Option.some.inj (hx0.symm.trans hlk)
      have B3 := Lib.hid (below_tr B2.out hb)
      have V3 := Lib.hid (V2.out.below hb)
      have O3 := Lib.hid (show IOwn w3 w.heap.size l (.slice (some ⟨g, 0, none⟩) l.length cp) from own_lower0 ho B2.out.size)
      have M4 := Lib.hid (show ChAt w (w3.alloc (.cells #[.slice (some ⟨g, 0, none⟩) l.length cp, .int .i64 (k : Int)] 69)) l g cp l.length k w3.heap.size from ⟨below_al B3.out _, World.ownsRow.alloc O3.out _, ChB.new w3 _ _⟩)
      have V4 := Lib.hid (V3.out.below (below_al (Below.refl w3.heap.size w3) (.cells #[.slice (some ⟨g, 0, none⟩) l.length cp, .int .i64 (k : Int)] 69)))
      have HK := Lib.hid hk
      have HL := Lib.hid hlk
      clear hb ho hx0 hk hlk
      go_wp2_with fail
      generalize (w3.alloc (.cells #[.slice (some ⟨g, 0, none⟩) l.length cp, .int .i64 (k : Int)] 69)) = w4 at *
      generalize hbc : w3.heap.size = bc at *
      have PL := Lib.hid (plast w4 w.heap.size l g l.length cp k x0 M4.out.own HK.out)
      have kl : k < l.length := (List.getElem?_eq_some_iff.1 HK.out).1
      have XV := Lib.hid (show 1 ≤ x0.ver ∧ x0.ver ≤ 9007199254740992 from (one_iff.1 (HR.out.one x0 (List.mem_of_getElem? HK.out))).2.2.2.2.1)
      clear hbc
      by_cases hv : 9007199254740992 ≤ x0.ver
      · have R := Lib.hid (show limE l s v ver = 4 by rw [AE2.out, if_pos hv])
        rw [decide_eq_true hv] at PL
        clear hv AE2
        with_reducible refine PL.out.mono ?_
        rintro e5 w5 ⟨rfl, hb⟩
        have B5 := Lib.hid (below_tr M4.out.below hb)
        clear hb
        go_wp2_with fail
        exact bodyPost_ret (v := .tuple #[.slice none 0 0, .int .i64 4]) (by simp [results, Try.results14, go_sem]) rfl ⟨_, by rw [R.out]; rfl, B5.out, by rw [R.out]; exact irow_nil0 _⟩
      · have AE3 := Lib.hid (show limE l s v ver = if leV x0.sub v = false then 12 else 0 by rw [AE2.out, if_neg hv])
        rw [decide_eq_false hv] at PL
        have XL := Lib.hid hv
        clear hv AE2
        with_reducible refine PL.out.mono ?_
        rintro e5 w5 ⟨rfl, hb⟩
        have M5 := Lib.hid (M4.out.next hb)
        have V5 := Lib.hid (V4.out.below hb)
        clear hb
        obtain ⟨c0, c1⟩ := M5.out.ch.cells
        obtain ⟨v0, v1, v2, -⟩ := V5.out.cells
        obtain ⟨-, A5⟩ := own_at12 M5.out.own HK.out
        have k8 := A5.c8
        have k9 := A5.c9
        have k10 := A5.c10
        clear A5
        have PN := Lib.hid (fun W => pone W g l.length cp k kl)
        have LE := Lib.hid (fun W => vle_any W x0.sub v)
        go_upto_region 8 with fail
        refine wp_region_mono (by kernel_rfl) (by kernel_rfl) ?_
        simp only [List.map_cons, List.map_nil]
        repeat (first
          | (apply wpM_is
             · (intro us W hW hg K hK
                clear hg
                have d0 := hold hW c0
                have d1 := hold hW c1
                have d2 := hold hW v0
                have d3 := hold hW v1
                have d4 := hold hW v2
                have d8 := hold hW k8
                have d9 := hold hW k9
                have d10 := hold hW k10
                simp only [fillA]
                go_simp
                first
                | exact hK _ (Below.refl _ _)
                | ((with_reducible refine (PN.out _).mono ?_); rintro e w' ⟨rfl, hb⟩; exact hK _ hb)
                | ((with_reducible refine (LE.out _).mono ?_); rintro e w' ⟨rfl, hb⟩; exact hK _ hb))
             simp only [setD, List.set_cons_zero, List.set_cons_succ]))
        intro us W hW hg
        simp only [fillA]
        clear hg
        have M6 := Lib.hid (M5.out.next hW)
        have V6 := Lib.hid (V5.out.below hW)
        clear hW c0 c1 v0 v1 v2 k8 k9 k10
        cases hle : leV x0.sub v with
        | false =>
          have R := Lib.hid (show limE l s v ver = 12 by rw [AE3.out, if_pos hle])
          have B6 := Lib.hid M6.out.below
          clear hle AE3
          go_wp2_with fail
          exact bodyPost_ret (v := .tuple #[.slice none 0 0, .int .i64 12]) (by simp [results, Try.results14, go_sem]) rfl ⟨_, by rw [R.out]; rfl, B6.out, by rw [R.out]; exact irow_nil0 _⟩
        | true =>
          have R := Lib.hid (show limE l s v ver = 0 by rw [AE3.out, hle]; rfl)
          clear hle AE3
          obtain ⟨c0, c1⟩ := M6.out.ch.cells
          obtain ⟨v0, v1, v2, -⟩ := V6.out.cells
          go_upto_region 10 with fail
          refine wp_region_mono_tail 5 (by kernel_rfl) (by kernel_rfl) (Nat.le_of_ble_eq_true (by kernel_rfl)) (by kernel_rfl) ?_
          simp only [List.map_cons, List.map_nil]
          simp only [List.take_succ_cons, List.take_zero, List.drop_succ_cons, List.drop_zero]
          repeat (first
            | (apply wpM_is
               · (intro us W hW hg K hK
                  clear hg
                  have d0 := hold hW c0
                  have d1 := hold hW c1
                  have d2 := hold hW v0
                  have d3 := hold hW v1
                  have d4 := hold hW v2
                  simp only [fillA]
                  go_simp
                  first
                  | exact hK _ (Below.refl _ _)
                  | ((with_reducible refine (PN.out _).mono ?_); rintro e w' ⟨rfl, hb⟩; exact hK _ hb))
               simp only [setD, List.set_cons_zero, List.set_cons_succ]))
          intro us' W7 hW hg
          simp only [fillA]
          clear hg
          have M7 := Lib.hid (M6.out.next hW)
          obtain ⟨-, A7⟩ := own_at12 M7.out.own HK.out
          have k2 := A7.c2
          have k3 := A7.c3
          have k4 := A7.c4
          have f2 := IOwn.frz M7.out.own (k * 12 + 2)
          have f3 := IOwn.frz M7.out.own (k * 12 + 3)
          have f4 := IOwn.frz M7.out.own (k * 12 + 4)
          clear hW c0 c1 v0 v1 v2 A7
          go_upto_region 11 with fail
          have M8 := Lib.hid (M7.out.set3 (y := ⟨x0.name, x0.parent, v, x0.own, x0.sub, x0.ver⟩) HK.out 2 (by decide) (.int .i64 v.c) (.int .i64 v.m) (.int .i64 v.p) rfl)
          clear k2 k3 k4 f2 f3 f4
          generalize (((W7.setCell ⟨g, k * 12 + 2, none⟩ (.int .i64 v.c)).setCell ⟨g, k * 12 + 2 + 1, none⟩ (.int .i64 v.m)).setCell ⟨g, k * 12 + 2 + 2, none⟩ (.int .i64 v.p)) = w8 at *
          have HS := Lib.hid (show (l.set k ⟨x0.name, x0.parent, v, x0.own, x0.sub, x0.ver⟩)[k]? = some (⟨x0.name, x0.parent, v, x0.own, x0.sub, x0.ver⟩ : I12) from List.getElem?_set_self kl)
          have PC := Lib.hid (pcount w8 w.heap.size _ g l.length cp k ⟨x0.name, x0.parent, v, x0.own, x0.sub, x0.ver⟩ M8.out.own HS.out XV.out.2 (by have := XV.out.1; show 0 ≤ x0.ver; omega))
          obtain ⟨c0, c1⟩ := M8.out.ch.cells
          go_wp2_with fail
          with_reducible refine PC.out.mono ?_
          rintro e9 w9 ⟨rfl, w10, hb, rfl⟩
          have M9 := Lib.hid ((M8.out.next hb).set1 (y := ⟨x0.name, x0.parent, v, x0.own, x0.sub, x0.ver + 1⟩) HS.out 11 (by decide) (.int .i64 (x0.ver + 1)) rfl)
          clear hb c0 c1
          generalize (w10.setCell ⟨g, k * 12 + 11, none⟩ (.int .i64 ((⟨x0.name, x0.parent, v, x0.own, x0.sub, x0.ver⟩ : I12).ver + 1))) = w11 at *
          obtain ⟨c0, c1⟩ := M9.out.ch.cells
          go_wp2_with fail
          have HN := (look_name HL.out).2
          have FIN := irow_of_own M9.out.own
          rw [lim_set HR.out.srt.uq HK.out HN] at FIN
          exact bodyPost_ret (v := .tuple #[.slice (some ⟨g, 0, none⟩) l.length cp, .int .i64 0]) (by simp [results, Try.results14, go_sem]) rfl ⟨_, by rw [R.out]; rfl, M9.out.below, by rw [R.out]; exact FIN⟩
end Go.Proofs.Ytmpakgabehplbaa
namespace Go.Proofs.Ytmpakgabehplbaa
open Go.RowKit
set_option linter.unusedVariables false
set_option linter.unusedSimpArgs false
theorem dele_at {l : List I12} (hu : Uq l) {k : Nat} {x : I12} (hk : l[k]? = some x) {s : ByteArray} (hn : x.name = s) : delL l s = l.take k ++ l.drop (k + 1) := by
  have hkl := (List.getElem?_eq_some_iff.1 hk).1
  have e : l = l.take k ++ x :: l.drop (k + 1) := by
    have h1 := List.drop_eq_getElem_cons hkl
    rw [(List.getElem?_eq_some_iff.1 hk).2] at h1
    rw [← h1, List.take_append_drop]
  generalize l.take k = a at *
  generalize l.drop (k + 1) = b at *
  subst e
  unfold Uq at hu
  rw [List.pairwise_append, List.pairwise_cons] at hu
  unfold delL
  rw [List.filter_append, List.filter_cons, if_neg (by rw [decide_eq_true hn]; decide)]
  rw [List.filter_eq_self.2, List.filter_eq_self.2]
  · intro y hy
    have h1 := hu.2.1.1 y hy
    rw [hn] at h1
    rw [decide_eq_false (fun e => h1 e.symm)]; rfl
  · intro y hy
    have h1 := hu.2.2 y hy x List.mem_cons_self
    rw [hn] at h1
    rw [decide_eq_false h1]; rfl
set_option maxHeartbeats 8000000 in
set_option maxRecDepth 100000 in
theorem shape_delete : DeC := by
  intro w l lv s ver h hr hs
  have hl : l.length ≤ 120 := hr.len
  have CN := Lib.hid (fun (hE : oldE l s ver ≠ 0) => pchange_no w l lv h (by omega) hr.srt s ver hE)
  have CO := Lib.hid (fun (hE : oldE l s ver = 0) => pchange_ok w l lv h (by omega) hr.srt s ver hE)
  have AE := Lib.hid (show delE l s ver = if oldE l s ver ≠ 0 then oldE l s ver else if (!(belowI l s).isEmpty || !eqV (itAt l s).own z3) = true then 13 else 0 from rfl)
  obtain ⟨ao, cap, rfl⟩ := h.shape
  have HR := Lib.hid hr
  clear h hr hs
  go_enter Try.func16, Try.ntmps16
  go_wp2_with fail
  by_cases hE : oldE l s ver ≠ 0
  · have R := Lib.hid (show delE l s ver = oldE l s ver by rw [AE.out, if_pos hE])
    have CN1 := Lib.hid (CN.out hE)
    have ne : ((oldE l s ver : Nat) : Int) ≠ 0 := by omega
    have RN := Lib.hid hE
    generalize oldE l s ver = E at *
    clear hE
    with_reducible refine CN1.out.mono ?_
    rintro e3 w3 ⟨rfl, hb⟩
    have B4 := Lib.hid (below_al hb (.cells #[.slice none 0 0, .int .i64 0] 69))
    clear hb
    go_wp2_with fail
    exact bodyPost_ret (v := .tuple #[.slice none 0 0, .int .i64 (E : Int)]) (by simp [results, Try.results16, go_sem]) rfl ⟨_, by rw [R.out], B4.out, by rw [R.out, if_neg RN.out]; exact irow_nil0 _⟩
  · have hE0 : oldE l s ver = 0 := Decidable.not_not.1 hE
    obtain ⟨x0, hx0, ex⟩ := old_look hE0
    have AE2 := Lib.hid (show delE l s ver = if (!(belowI l s).isEmpty || !eqV x0.own z3) = true then 13 else 0 by rw [AE.out, if_neg hE, ex])
    have CO1 := Lib.hid (CO.out hE0)
    clear hE hE0 ex AE
    with_reducible refine CO1.out.mono ?_
    rintro e3 w3 ⟨g, cp, k, x, rfl, hb, ho, hk, hlk⟩
    obtain rfl : x0 = x := Option.some.inj (hx0.symm.trans hlk)
    have M4 := Lib.hid (show ChAt w (w3.alloc (.cells #[.slice (some ⟨g, 0, none⟩) l.length cp, .int .i64 (k : Int)] 69)) l g cp l.length k w3.heap.size from ⟨below_al hb _, World.ownsRow.alloc ho _, ChB.new w3 _ _⟩)
    have HK := Lib.hid hk
    have HN := Lib.hid (look_name hlk).2
    clear hb ho hx0 hk hlk
    go_wp2_with fail
    generalize (w3.alloc (.cells #[.slice (some ⟨g, 0, none⟩) l.length cp, .int .i64 (k : Int)] 69)) = w4 at *
    generalize hbc : w3.heap.size = bc at *
    clear hbc
    have PB := Lib.hid (pbusy w4 w.heap.size l g l.length cp k x0 HR.out M4.out.own HK.out)
    rw [HN.out] at PB
    have kl : k < l.length := (List.getElem?_eq_some_iff.1 HK.out).1
    cases hq : (!(belowI l s).isEmpty || !eqV x0.own z3) with
    | true =>
      have R := Lib.hid (show delE l s ver = 13 by rw [AE2.out, hq]; rfl)
      rw [hq] at PB
      clear hq AE2
      with_reducible refine PB.out.mono ?_
      rintro e5 w5 ⟨rfl, hb⟩
      have B5 := Lib.hid (below_tr M4.out.below hb)
      clear hb
      go_wp2_with fail
      exact bodyPost_ret (v := .tuple #[.slice none 0 0, .int .i64 13]) (by simp [results, Try.results16, go_sem]) rfl ⟨_, by rw [R.out]; rfl, B5.out, by rw [R.out]; exact irow_nil0 _⟩
    | false =>
      have R := Lib.hid (show delE l s ver = 0 by rw [AE2.out, hq]; rfl)
      rw [hq] at PB
      clear hq AE2
      with_reducible refine PB.out.mono ?_
      rintro e5 w5 ⟨rfl, hb⟩
      have M5 := Lib.hid (M4.out.next hb)
      clear hb
      obtain ⟨c0, c1⟩ := M5.out.ch.cells
      have PD := Lib.hid (pdel w5 w.heap.size g cp l k kl M5.out.own (by omega))
      go_wp2_with fail
      with_reducible refine PD.out.mono ?_
      rintro e6 w6 ⟨rv, rfl, hg, ho⟩
      have LB := (iblk_at M5.out.own).1
      have B6 := Lib.hid (below_grown' M5.out.below hg (fun q hq => by
        obtain rfl := Option.some.inj hq
        exact LB))
      have O6 := Lib.hid (irow_of_own ho)
      rw [← dele_at HR.out.srt.uq HK.out HN.out] at O6
      clear hg ho LB c0 c1
      go_wp2_with fail
      exact bodyPost_ret (v := .tuple #[rv, .int .i64 0]) (by simp [results, Try.results16, go_sem]) rfl ⟨_, by rw [R.out]; rfl, B6.out, by rw [R.out]; exact O6.out⟩
end Go.Proofs.Ytmpakgabehplbaa
namespace Go.Proofs.Ytmpakgabehplbaa
open Go.RowKit
set_option linter.unusedVariables false
set_option linter.unusedSimpArgs false
set_option maxHeartbeats 8000000 in
set_option maxRecDepth 100000 in
theorem shape_do_by (MV : MoC) : DoC := by
  intro w l lv st ver h hr hs hp
  have RC := Lib.hid (fun W (hW : Below w.heap.size w W) => shape_create W l lv st.name st.par st.lim (h.below hW) hr hs hp)
  have RL := Lib.hid (fun W (hW : Below w.heap.size w W) => shape_limit W l lv st.name st.lim ver (h.below hW) hr hs)
  have RM := Lib.hid (fun W (hW : Below w.heap.size w W) => MV W l lv st.name st.par ver (h.below hW) hr hs hp)
  have RD := Lib.hid (fun W (hW : Below w.heap.size w W) => shape_delete W l lv st.name ver (h.below hW) hr hs)
  unfold ShT at RC RL RM RD
  have B0 := Lib.hid (below_al (Below.refl w.heap.size w) (.cells #[.int .i64 st.kind, .string st.name, .string st.par, .int .i64 st.lim.c, .int .i64 st.lim.m, .int .i64 st.lim.p] 26))
  have S0 := Lib.hid (SBlk.new w st)
  have DE := Lib.hid (show doE l st ver = if st.kind = 1 then createE l st.name st.par st.lim else if st.kind = 2 then limE l st.name st.lim ver else if st.kind = 3 then movE l st.name st.par ver else if st.kind = 4 then delE l st.name ver else 1 from rfl)
  have DL := Lib.hid (show doL l st = if st.kind = 1 then createL l st.name st.par st.lim else if st.kind = 2 then limL l st.name st.lim else if st.kind = 3 then movL l st.name st.par else delL l st.name from rfl)
  obtain ⟨s0, s1, s2, s3, s4, s5⟩ := S0.out.cells
  obtain ⟨ao, cap, rfl⟩ := h.shape
  clear h hr hs hp
  unfold St6.val
  go_enter Try.func17, Try.ntmps17
  go_upto_region 1 with fail
  generalize (w.alloc (.cells #[.int .i64 st.kind, .string st.name, .string st.par, .int .i64 st.lim.c, .int .i64 st.lim.m, .int .i64 st.lim.p] 26)) = w0 at *
  by_cases h1 : st.kind = 1
  · rw [h1] at s0
    have R := Lib.hid (show doE l st ver = createE l st.name st.par st.lim from by rw [DE.out]; rw [if_pos h1])
    have RL2 := Lib.hid (show doL l st = createL l st.name st.par st.lim from by rw [DL.out]; rw [if_pos h1])
    clear DE DL
    go_wp2_with fail
    with_reducible refine (RC.out _ B0.out).mono ?_
    rintro e2 w2 ⟨ov, rfl, h2, o2⟩
    have B2 := Lib.hid (below_tr B0.out h2)
    have O2 := Lib.hid o2
    clear h2 o2 s0 s1 s2 s3 s4 s5
    go_wp2_with fail
    exact bodyPost_ret (v := .tuple #[ov, .int .i64 (createE l st.name st.par st.lim : Nat)]) (by simp [results, Try.results17, go_sem]) rfl ⟨_, by rw [R.out], B2.out, by rw [R.out, RL2.out]; exact O2.out⟩
  · have n1 : (st.kind == 1) = false := beq_false_of_ne h1
    by_cases h2 : st.kind = 2
    · rw [h2] at s0
      clear n1
      have R := Lib.hid (show doE l st ver = limE l st.name st.lim ver from by rw [DE.out]; rw [if_neg h1, if_pos h2])
      have RL2 := Lib.hid (show doL l st = limL l st.name st.lim from by rw [DL.out]; rw [if_neg h1, if_pos h2])
      clear DE DL
      go_wp2_with fail
      with_reducible refine (RL.out _ B0.out).mono ?_
      rintro e2 w2 ⟨ov, rfl, h2, o2⟩
      have B2 := Lib.hid (below_tr B0.out h2)
      have O2 := Lib.hid o2
      clear h2 o2 s0 s1 s2 s3 s4 s5
      go_wp2_with fail
      exact bodyPost_ret (v := .tuple #[ov, .int .i64 (limE l st.name st.lim ver : Nat)]) (by simp [results, Try.results17, go_sem]) rfl ⟨_, by rw [R.out], B2.out, by rw [R.out, RL2.out]; exact O2.out⟩
    · have n2 : (st.kind == 2) = false := beq_false_of_ne h2
      by_cases h3 : st.kind = 3
      · rw [h3] at s0
        clear n1 n2
        have R := Lib.hid (show doE l st ver = movE l st.name st.par ver from by rw [DE.out]; rw [if_neg h1, if_neg h2, if_pos h3])
        have RL2 := Lib.hid (show doL l st = movL l st.name st.par from by rw [DL.out]; rw [if_neg h1, if_neg h2, if_pos h3])
        clear DE DL
        go_wp2_with fail
        with_reducible refine (RM.out _ B0.out).mono ?_
        rintro e2 w2 ⟨ov, rfl, h2, o2⟩
        have B2 := Lib.hid (below_tr B0.out h2)
        have O2 := Lib.hid o2
        clear h2 o2 s0 s1 s2 s3 s4 s5
        go_wp2_with fail
        exact bodyPost_ret (v := .tuple #[ov, .int .i64 (movE l st.name st.par ver : Nat)]) (by simp [results, Try.results17, go_sem]) rfl ⟨_, by rw [R.out], B2.out, by rw [R.out, RL2.out]; exact O2.out⟩
      · have n3 : (st.kind == 3) = false := beq_false_of_ne h3
        by_cases h4 : st.kind = 4
        · rw [h4] at s0
          clear n1 n2 n3
          have R := Lib.hid (show doE l st ver = delE l st.name ver from by rw [DE.out]; rw [if_neg h1, if_neg h2, if_neg h3, if_pos h4])
          have RL2 := Lib.hid (show doL l st = delL l st.name from by rw [DL.out]; rw [if_neg h1, if_neg h2, if_neg h3])
          clear DE DL
          go_wp2_with fail
          with_reducible refine (RD.out _ B0.out).mono ?_
          rintro e2 w2 ⟨ov, rfl, h2, o2⟩
          have B2 := Lib.hid (below_tr B0.out h2)
          have O2 := Lib.hid o2
          clear h2 o2 s0 s1 s2 s3 s4 s5
          go_wp2_with fail
          exact bodyPost_ret (v := .tuple #[ov, .int .i64 (delE l st.name ver : Nat)]) (by simp [results, Try.results17, go_sem]) rfl ⟨_, by rw [R.out], B2.out, by rw [R.out, RL2.out]; exact O2.out⟩
        · have n4 : (st.kind == 4) = false := beq_false_of_ne h4
          have R := Lib.hid (show doE l st ver = 1 from by rw [DE.out]; rw [if_neg h1, if_neg h2, if_neg h3, if_neg h4])
          clear DE DL
          go_wp2_with fail
          exact bodyPost_ret (v := .tuple #[.slice none 0 0, .int .i64 1]) (by simp [results, Try.results17, go_sem]) rfl ⟨_, by rw [R.out]; rfl, B0.out, by rw [R.out]; exact irow_nil0 _⟩
end Go.Proofs.Ytmpakgabehplbaa
