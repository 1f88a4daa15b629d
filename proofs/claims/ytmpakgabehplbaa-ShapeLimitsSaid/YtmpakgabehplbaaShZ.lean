/- Package shape's functions as the laws ask for them: shape_create, shape_limit, shape_move, shape_delete, shape_do. -/
import Derived.Test.YtmpakgabehplbaaZhS
namespace Go.Proofs.Ytmpakgabehplbaa
open Go.RowKit
set_option linter.unusedVariables false
set_option linter.unusedSimpArgs false
theorem take_snocZ {α : Type} {xs : List α} {j : Nat} {a : α} (h : xs[j]? = some a) : xs.take (j + 1) = xs.take j ++ [a] := by rw [List.take_add_one, h]; rfl
section
variable (w : World)
set_option maxHeartbeats 1000000 in
set_option maxRecDepth 20000 in
theorem pindexZ (v : Value) (xs : List ByteArray) (h : SRow w xs v) (hl : xs.length ≤ 1000) (x : ByteArray) :
    Calls Try.prog 77 #[v, .string x] w fun e w' => w = w' ∧ ∃ r : Int, e = .returned (.int .i64 r) ∧ decide (0 ≤ r) = inB xs x := by
  obtain ⟨ao, cap, rfl, hc⟩ := h
  have HC := Lib.hid hc
  clear hc
  go_enter Try.func77, Try.ntmps77
  go_wp2_with fail
  go_loopg [8] xs.length (fun m v wr => ∃ j : Nat, v = .int .i64 j ∧ xs.length - j ≤ m ∧ j ≤ xs.length ∧ w = wr ∧ Hid (∀ z ∈ xs.take j, z ≠ x))
  case atStart => exact ⟨0, rfl, Nat.le_refl _, Nat.zero_le _, rfl, Lib.hid (fun z hz => by simp at hz)⟩
  case round =>
    obtain ⟨j, rfl, hm, hj, rfl, HJ⟩ := hrel
    have HM := Lib.hid hm
    clear hm
    by_cases hjl : j < xs.length
    · obtain ⟨a, ha⟩ : ∃ a, xs[j]? = some a := ⟨_, List.getElem?_eq_getElem hjl⟩
      obtain ⟨g, o, eb, c0⟩ := HC.out j a ha
      subst eb
      have se : (x.toList == a.toList) = decide (x = a) := tstr_eq _ _
      by_cases hax : x = a
      · rw [decide_eq_true hax] at se
        have IN := Lib.hid (show inB xs x = true by unfold inB; rw [List.any_eq_true]; exact ⟨a, List.mem_of_getElem? ha, by simpa using hax.symm⟩)
        clear ha hax
        go_wp2_with fail
        go_ret
        exact ⟨rfl, _, rfl, by rw [IN.out]; simp⟩
      · rw [decide_eq_false hax] at se
        have HK := Lib.hid (show ∀ z ∈ xs.take (j + 1), z ≠ x from fun z hz => by
          rw [take_snocZ ha] at hz
          rcases List.mem_append.1 hz with hz | hz
          · exact HJ.out z hz
          · obtain rfl := List.mem_singleton.1 hz; exact fun e => hax e.symm)
        clear ha hax
        go_wp2_with fail
        go_roundg (xs.length - (j + 1))
        case rel => exact ⟨j + 1, rfl, Nat.le_refl _, hjl, rfl, HK⟩
        case measure => have := HM.out; omega
    · have hz : j = xs.length := by omega
      subst hz
      have NI := Lib.hid (show inB xs x = false by unfold inB; rw [List.any_eq_false]; intro y hy; simpa using HJ.out y (by rwa [List.take_length]))
      go_wp2_with fail
      go_ret
      exact ⟨rfl, _, rfl, by rw [NI.out]; rfl⟩
set_option maxHeartbeats 1000000 in
set_option maxRecDepth 20000 in
theorem pcontZ (v : Value) (xs : List ByteArray) (h : SRow w xs v) (hl : xs.length ≤ 1000) (x : ByteArray) :
    Calls Try.prog 65 #[v, .string x] w fun e w' => w = w' ∧ e = .returned (.bool (inB xs x)) := by
  have C := Lib.hid (pindexZ w v xs h hl x)
  obtain ⟨ao, cap, rfl, -⟩ := h
  go_enter Try.func65, Try.ntmps65
  go_wp2_with fail
  refine C.out.mono ?_
  rintro e w1 ⟨rfl, r, rfl, hr⟩
  go_wp2_with fail
  go_ret
  exact ⟨rfl, by rw [← hr]; rfl⟩
set_option maxHeartbeats 8000000 in
set_option maxRecDepth 20000 in
theorem punderC (B : Nat) (l : List I12) (hr : RT l) (g cap k : Nat) (x : I12) (hB : IOwn w B l (.slice (some ⟨g, 0, none⟩) l.length cap)) (hx : l[k]? = some x) (p : ByteArray) :
    Calls Try.prog 44 #[.agg #[.slice (some ⟨g, 0, none⟩) l.length cap, .int .i64 (k : Int)], .string p] w (Made (.bool (inB (upI l p) x.name)) w) := by
  have hl : l.length ≤ 120 := hr.len
  have kl : k < l.length := (List.getElem?_eq_some_iff.1 hx).1
  have PN := Lib.hid (fun W => pone W g l.length cap k kl)
  have IR := Lib.hid (irow_of_own hB)
  have RU := Lib.hid (fun W (hW : Below w.heap.size w W) => (show Calls Try.prog 66 #[.slice (some ⟨g, 0, none⟩) l.length cap, .string p] W (MadeStrs (upI l p) W) from by
    have := pUp W l _ (IR.out.below hW) (by omega) hr.srt p
    rwa [up_same (hr.up p)] at this))
  have UL := Lib.hid (show (upI l p).length ≤ 1000 from by have := hr.up p; omega)
  have PC := Lib.hid (fun W v (hv : StrsO W w.heap.size v (upI l p)) => pcontZ W v (upI l p) (srow_of hv) UL.out x.name)
  have BX := Lib.hid (below_al (Below.refl w.heap.size w) (.cells #[.slice (some ⟨g, 0, none⟩) l.length cap, .int .i64 (k : Int)] 69))
  have C0 := Lib.hid (ChB.new w (.slice (some ⟨g, 0, none⟩) l.length cap) (.int .i64 (k : Int)))
  obtain ⟨-, A0⟩ := own_at12 hB hx
  have k0 := hold BX.out A0.c0
  obtain ⟨c0, c1⟩ := C0.out.cells
  clear hB hx A0 hr
  generalize upI l p = us at *
  go_enter Try.func44, Try.ntmps44
  go_upto_region 1 with fail
  generalize (w.alloc (.cells #[.slice (some ⟨g, 0, none⟩) l.length cap, .int .i64 (k : Int)] 69)) = w0 at *
  refine wp_region_mono (by kernel_rfl) (by kernel_rfl) ?_
  simp only [List.map_cons, List.map_nil]
  repeat (first
    | (apply wpM_is
       · (intro us W hW hg K hK
          clear hg
          have d0 := hold hW c0
          have d1 := hold hW c1
          have e0 := hold hW k0
          simp only [fillA]
          go_simp
          first
          | exact hK _ (Below.refl _ _)
          | ((with_reducible refine (PN.out _).mono ?_); rintro e w' ⟨rfl, hb⟩; exact hK _ hb))
       simp only [setD, List.set_cons_zero, List.set_cons_succ]))
  refine wpM_any (fun v W => StrsO W w.heap.size v us) (fun v W W' h hb => StrsO.below h hb) ?_ ?_
  · intro us W hW hg K hK
    clear hg
    simp only [fillA]
    go_simp
    (with_reducible refine (RU.out W (below_tr BX.out hW)).mono ?_)
    rintro e w' ⟨v, rfl, hb, ho⟩
    exact hK _ _ (own_lower0 ho (below_tr BX.out hW).size) hb
  simp only [setD, List.set_cons_zero, List.set_cons_succ]
  repeat (first
    | (apply wpM_is
       · (intro us W hW hg K hK
          clear hg
          have d0 := hold hW c0
          have d1 := hold hW c1
          have e0 := hold hW k0
          simp only [fillA]
          go_simp
          first
          | exact hK _ (Below.refl _ _)
          | ((with_reducible refine (PN.out _).mono ?_); rintro e w' ⟨rfl, hb⟩; exact hK _ hb))
       simp only [setD, List.set_cons_zero, List.set_cons_succ]))
  apply wpM_is
  · intro us W hW hg K hK
    have h0 := hg 8 (List.elem_iff.1 (by kernel_rfl)) _ rfl
    clear hg
    simp only [fillA]
    go_simp
    (with_reducible refine (PC.out _ _ h0).mono ?_)
    rintro e w' ⟨rfl, rfl⟩
    exact hK _ (Below.refl _ _)
  simp only [setD, List.set_cons_zero, List.set_cons_succ]
  repeat (first
    | (apply wpM_is
       · (intro us W hW hg K hK
          clear hg
          simp only [fillA]
          go_simp
          first
          | exact hK _ (Below.refl _ _))
       simp only [setD, List.set_cons_zero, List.set_cons_succ]))
  intro us' W hW hg
  simp only [fillA]
  clear hg
  have BW := Lib.hid (below_tr BX.out hW)
  clear hW c0 c1 k0
  go_wp2_with fail
  go_ret
  exact ⟨rfl, BW.out⟩
end
theorem up_nil {l : List I12} {p : ByteArray} : upI l p = [] ↔ iIdx l p = none := by
  constructor
  · intro h
    cases hi : iIdx l p with
    | none => rfl
    | some k =>
      obtain ⟨x, hx, -, -⟩ := iIdx_spec hi
      unfold upI at h
      rw [upF_some hi hx] at h
      cases h
  · intro h
    exact upF_none h _
set_option maxHeartbeats 16000000 in
set_option maxRecDepth 100000 in
theorem shape_move : MoC := by
  intro w l lv s p ver h hr hs hp
  have hl : l.length ≤ 120 := hr.len
  have CN := Lib.hid (fun (hE : oldE l s ver ≠ 0) => pchange_no w l lv h (by omega) hr.srt s ver hE)
  have CO := Lib.hid (fun (hE : oldE l s ver = 0) => pchange_ok w l lv h (by omega) hr.srt s ver hE)
  have AE := Lib.hid (show movE l s p ver = if oldE l s ver ≠ 0 then oldE l s ver else if p ≠ ⟨#[]⟩ ∧ upI l p = [] then 2 else if s ∈ upI l p then 10 else if 9007199254740992 ≤ (itAt l s).ver then 4 else if movR l s p = false then 12 else 0 from rfl)
  obtain ⟨ao, cap, rfl⟩ := h.shape
  have HR := Lib.hid hr
  clear h hr hs hp
  go_enter Try.func15, Try.ntmps15
  go_wp2_with fail
  by_cases hE : oldE l s ver ≠ 0
  · have R := Lib.hid (show movE l s p ver = oldE l s ver by rw [AE.out, if_pos hE])
    have CN1 := Lib.hid (CN.out hE)
    have ne : ((oldE l s ver : Nat) : Int) ≠ 0 := by omega
    have RN := Lib.hid hE
    generalize oldE l s ver = E at *
    clear hE
    with_reducible refine CN1.out.mono ?_
    rintro e3 w3 ⟨rfl, hb⟩
    have B4 := Lib.hid (below_al hb (.cells #[.slice none 0 0, .int .i64 0] 69))
    clear hb
    go_wp2_with fail
    exact bodyPost_ret (v := .tuple #[.slice none 0 0, .int .i64 (E : Int)]) (by simp [results, Try.results15, go_sem]) rfl ⟨_, by rw [R.out], B4.out, by rw [R.out, if_neg RN.out]; exact irow_nil0 _⟩
  · have hE0 : oldE l s ver = 0 := Decidable.not_not.1 hE
    obtain ⟨x0, hx0, ex⟩ := old_look hE0
    have AE2 := Lib.hid (show movE l s p ver = if p ≠ ⟨#[]⟩ ∧ upI l p = [] then 2 else if s ∈ upI l p then 10 else if 9007199254740992 ≤ x0.ver then 4 else if movR l s p = false then 12 else 0 by rw [AE.out, if_neg hE, ex])
    have EX := Lib.hid ex
    have CO1 := Lib.hid (CO.out hE0)
    clear hE hE0 ex AE
    with_reducible refine CO1.out.mono ?_
    rintro e3 w3 ⟨g, cp, k, x, rfl, hb, ho, hk, hlk⟩
    obtain rfl : x0 = x := Option.some.inj (hx0.symm.trans hlk)
    have M4 := Lib.hid (show ChAt w (w3.alloc (.cells #[.slice (some ⟨g, 0, none⟩) l.length cp, .int .i64 (k : Int)] 69)) l g cp l.length k w3.heap.size from ⟨below_al hb _, World.ownsRow.alloc ho _, ChB.new w3 _ _⟩)
    have HK := Lib.hid hk
    have HN := Lib.hid (look_name hlk).2
    have kl : k < l.length := (List.getElem?_eq_some_iff.1 hk).1
    clear hb ho hx0 hk hlk
    go_upto_region 4 with fail
    generalize (w3.alloc (.cells #[.slice (some ⟨g, 0, none⟩) l.length cp, .int .i64 (k : Int)] 69)) = w4 at *
    generalize hbc : w3.heap.size = bc at *
    clear hbc
    have PO := Lib.hid (pholds w4 l _ (irow_of_own M4.out.own) (by omega) HR.out.srt p)
    obtain ⟨c0, c1⟩ := M4.out.ch.cells
    cases hq : (decide (p = ⟨#[]⟩) || (iIdx l p).isSome) with
    | false =>
      have R := Lib.hid (show movE l s p ver = 2 by
        rw [Bool.or_eq_false_iff] at hq
        rw [AE2.out, if_pos ⟨of_decide_eq_false hq.1, up_nil.2 (by cases hj : iIdx l p with | none => rfl | some j => rw [hj] at hq; cases hq.2)⟩])
      simp only [hq] at PO
      clear hq AE2
      go_wp2_with fail
      with_reducible refine PO.out.mono ?_
      rintro e5 w5 ⟨rfl, hb⟩
      have B5 := Lib.hid (below_tr M4.out.below hb)
      clear hb c0 c1
      go_wp2_with fail
      exact bodyPost_ret (v := .tuple #[.slice none 0 0, .int .i64 2]) (by simp [results, Try.results15, go_sem]) rfl ⟨_, by rw [R.out]; rfl, B5.out, by rw [R.out]; exact irow_nil0 _⟩
    | true =>
      have AE3 := Lib.hid (show movE l s p ver = if s ∈ upI l p then 10 else if 9007199254740992 ≤ x0.ver then 4 else if movR l s p = false then 12 else 0 by
        rw [AE2.out, if_neg]
        rintro ⟨h1, h2⟩
        rw [decide_eq_false h1, up_nil.1 h2] at hq
        cases hq)
      simp only [hq] at PO
      clear hq AE2
      go_wp2_with fail
      with_reducible refine PO.out.mono ?_
      rintro e5 w5 ⟨rfl, hb⟩
      have M5 := Lib.hid (M4.out.next hb)
      clear hb c0 c1
      obtain ⟨c0, c1⟩ := M5.out.ch.cells
      have PU := Lib.hid (punderC w5 w.heap.size l HR.out g cp k x0 M5.out.own HK.out p)
      rw [HN.out] at PU
      go_wp2_with fail
      cases hin : inB (upI l p) s with
      | true =>
        have R := Lib.hid (show movE l s p ver = 10 by rw [AE3.out, if_pos (inB_iff.1 hin)])
        rw [hin] at PU
        clear hin AE3
        with_reducible refine PU.out.mono ?_
        rintro e6 w6 ⟨rfl, hb⟩
        have B6 := Lib.hid (below_tr M5.out.below hb)
        clear hb c0 c1
        go_wp2_with fail
        exact bodyPost_ret (v := .tuple #[.slice none 0 0, .int .i64 10]) (by simp [results, Try.results15, go_sem]) rfl ⟨_, by rw [R.out]; rfl, B6.out, by rw [R.out]; exact irow_nil0 _⟩
      | false =>
        have NI := Lib.hid (show s ∉ upI l p from in_mem hin)
        have AE4 := Lib.hid (show movE l s p ver = if 9007199254740992 ≤ x0.ver then 4 else if movR l s p = false then 12 else 0 by rw [AE3.out, if_neg NI.out])
        rw [hin] at PU
        clear hin AE3
        with_reducible refine PU.out.mono ?_
        rintro e6 w6 ⟨rfl, hb⟩
        have M6 := Lib.hid (M5.out.next hb)
        clear hb c0 c1
        obtain ⟨c0, c1⟩ := M6.out.ch.cells
        have PL := Lib.hid (plast w6 w.heap.size l g l.length cp k x0 M6.out.own HK.out)
        go_wp2_with fail
        by_cases hv : 9007199254740992 ≤ x0.ver
        · have R := Lib.hid (show movE l s p ver = 4 by rw [AE4.out, if_pos hv])
          rw [decide_eq_true hv] at PL
          clear hv AE4
          with_reducible refine PL.out.mono ?_
          rintro e7 w7 ⟨rfl, hb⟩
          have B7 := Lib.hid (below_tr M6.out.below hb)
          clear hb c0 c1
          go_wp2_with fail
          exact bodyPost_ret (v := .tuple #[.slice none 0 0, .int .i64 4]) (by simp [results, Try.results15, go_sem]) rfl ⟨_, by rw [R.out]; rfl, B7.out, by rw [R.out]; exact irow_nil0 _⟩
        · have AE5 := Lib.hid (show movE l s p ver = if movR l s p = false then 12 else 0 by rw [AE4.out, if_neg hv])
          rw [decide_eq_false hv] at PL
          clear hv AE4
          with_reducible refine PL.out.mono ?_
          rintro e7 w7 ⟨rfl, hb⟩
          have M7 := Lib.hid (M6.out.next hb)
          clear hb c0 c1
          obtain ⟨c0, c1⟩ := M7.out.ch.cells
          have PM := Lib.hid (pmoveTo w7 w.heap.size l HR.out g cp k x0 M7.out.own HK.out p)
          go_wp2_with fail
          with_reducible refine PM.out.mono ?_
          rintro e8 w8 ⟨F, T, C, fo, fc, ta, tc, rfl, hb, hf, ht, eF, eT, hx⟩
          have WY := Lib.hid (ways_of HR.out HK.out HN.out NI.out eF eT hx)
          have bx := below_al (Below.refl w8.heap.size w8) (.cells #[.slice (some ⟨g, 0, none⟩) l.length cp, .int .i64 (k : Int), .slice fo F.length fc, .slice ta T.length tc] 76)
          have M9 := Lib.hid ((M7.out.next hb).next bx)
          have V9 := Lib.hid (MvB.new w8 (.slice (some ⟨g, 0, none⟩) l.length cp) (.int .i64 (k : Int)) (.slice fo F.length fc) (.slice ta T.length tc))
          have F9 := Lib.hid (NatO.below (show NatO w8 w.heap.size (.slice fo F.length fc) F from own_lower0 hf M7.out.below.size) bx)
          have T9 := Lib.hid (NatO.below (show NatO w8 w.heap.size (.slice ta T.length tc) T from own_lower0 ht M7.out.below.size) bx)
          have TJ := Lib.hid (show ∀ j ∈ T, j < l.length from fun j hj => by
            obtain ⟨y, hy⟩ := WY.out.tl j hj
            exact (List.getElem?_eq_some_iff.1 hy).1)
          have TLn := Lib.hid (show T.length ≤ 1000 from by
            have h3 : ∀ z ∈ T, z ∈ List.range l.length := fun z hz => List.mem_range.2 (TJ.out z hz)
            have := nodup_le T (List.range l.length) WY.out.tn h3
            simp at this
            omega)
          have RA := Lib.hid (room_all HR.out WY.out EX.out)
          clear hb hf ht eF eT hx bx c0 c1
          go_wp2_with fail
          generalize (w8.alloc (.cells #[.slice (some ⟨g, 0, none⟩) l.length cp, .int .i64 (k : Int), .slice fo F.length fc, .slice ta T.length tc] 76)) = w9 at *
          generalize hbm : w8.heap.size = bm at *
          clear hbm
          obtain ⟨c0, c1, c2, c3⟩ := V9.out.cells
          have PR := Lib.hid (pmroom w9 l g cp k (.slice fo F.length fc) (.slice ta T.length tc) x0 w.heap.size M9.out.own HK.out (fun y hy => (one_iff.1 (HR.out.one y hy)).2.2.2.2.2.2) w.heap.size T T9.out TLn.out TJ.out)
          rw [← RA.out] at PR
          go_wp2_with fail
          cases hmr : movR l s p with
          | false =>
            have R := Lib.hid (show movE l s p ver = 12 by rw [AE5.out, if_pos hmr])
            rw [hmr] at PR
            clear hmr AE5 RA
            with_reducible refine PR.out.mono ?_
            rintro e10 w10 ⟨rfl, hb⟩
            have B10 := Lib.hid (below_tr M9.out.below hb)
            clear hb c0 c1 c2 c3
            go_wp2_with fail
            exact bodyPost_ret (v := .tuple #[.slice none 0 0, .int .i64 12]) (by simp [results, Try.results15, go_sem]) rfl ⟨_, by rw [R.out]; rfl, B10.out, by rw [R.out]; exact irow_nil0 _⟩
          | true =>
            have R := Lib.hid (show movE l s p ver = 0 by rw [AE5.out, hmr]; rfl)
            rw [hmr] at PR
            clear hmr AE5 RA
            with_reducible refine PR.out.mono ?_
            rintro e10 w10 ⟨rfl, hb⟩
            have M10 := Lib.hid (M9.out.next hb)
            have V10 := Lib.hid (V9.out.below hb)
            have F10 := Lib.hid (NatO.below F9.out hb)
            have T10 := Lib.hid (NatO.below T9.out hb)
            clear hb c0 c1 c2 c3
            obtain ⟨c0, c1, c2, c3⟩ := V10.out.cells
            have NG := Lib.hid (mv_apart M10.out.own V10.out)
            have PT := Lib.hid (pturn w10 w l g cp k x0 s p F T fo ta fc tc HR.out M10.out.below M10.out.own F10.out T10.out HK.out WY.out)
            rw [mov_fin HR.out WY.out HK.out HN.out EX.out NI.out] at PT
            go_wp2_with fail
            with_reducible refine PT.out.mono ?_
            rintro e11 w11 ⟨rfl, hb, ho, hsz, hold11⟩
            have B11 := Lib.hid hb
            have O11 := Lib.hid (irow_of_own ho)
            have V11 := Lib.hid (show MvB w11 bm (.slice (some ⟨g, 0, none⟩) l.length cp) (.int .i64 (k : Int)) (.slice fo F.length fc) (.slice ta T.length tc) from (hold11 bm V10.out.lt NG.out).trans V10.out)
            clear hb ho hsz hold11 c0 c1 c2 c3
            obtain ⟨c0, c1, c2, c3⟩ := V11.out.cells
            go_wp2_with fail
            exact bodyPost_ret (v := .tuple #[.slice (some ⟨g, 0, none⟩) l.length cp, .int .i64 0]) (by simp [results, Try.results15, go_sem]) rfl ⟨_, by rw [R.out]; rfl, B11.out, by rw [R.out]; exact O11.out⟩
theorem shape_do : DoC := shape_do_by shape_move
end Go.Proofs.Ytmpakgabehplbaa
namespace Go.Proofs.Ytmpakgabehplbaa
theorem shape_all : CrC ∧ LiC ∧ MoC ∧ DeC ∧ DoC := ⟨shape_create, shape_limit, shape_move, shape_delete, shape_do⟩
end Go.Proofs.Ytmpakgabehplbaa
