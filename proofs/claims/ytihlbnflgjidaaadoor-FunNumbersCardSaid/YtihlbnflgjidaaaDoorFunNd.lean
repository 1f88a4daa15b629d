/- The law of numbers, walked. -/
import Derived.Test.YtihlbnflgjidaaaDoorFunNc
namespace Go.Proofs.YtihlbnflgjidaaaDoor
open Go.RowKit
set_option linter.unusedVariables false
set_option linter.unusedSimpArgs false

def inB (xs : List Int) (o : Int) : Bool := xs.contains o
section
variable (w : World)
set_option maxHeartbeats 16000000 in
set_option maxRecDepth 100000 in
theorem numbers_go (v : Value) (xs : List Int) (o : Int) (t : Nat) (h : NumsRd .i32 w v xs) (hx : In32 xs) (h0 : 0 < xs.length) (hl : xs.length ≤ 40) (ho : -2147483648 ≤ o ∧ o ≤ 2147483647) (ht : t < 256) :
    Calls Tryd.prog 6 #[v, .int .i32 o, .int .u8 t] w (Made (.bool true) w) := by
  have H := Lib.hid h
  have HX := Lib.hid hx
  have LA := Lib.hid (flist w v xs h (by omega) hx)
  obtain ⟨ao, cap, rfl⟩ := h.shape
  obtain ⟨n, hn⟩ : ∃ n, xs.length = n := ⟨_, rfl⟩
  rw [hn] at H LA h0 hl ⊢
  have hnz : ¬ (n : Int) = 0 := by omega
  have hnz2 : ¬ n = 0 := by omega
  have htm : (t : Int).tmod (n : Int) = ((t % n : Nat) : Int) := by rw [Int.tmod_eq_emod_of_nonneg (by omega)]; omega
  have hkl : t % n < n := Nat.mod_lt _ h0
  have hb0 : ((n : Int) == 0) = false := by simp; omega
  have h40 : ¬ (40 : Int) < (n : Int) := by omega
  have HNN := Lib.hid hn
  clear h hx hn
  generalize hk : t % n = k at *
  clear hk
  go_enter Tryd.func6, Tryd.ntmps6
  go_wp2_with fail
  refine LA.out.mono ?_
  rintro e w1 ⟨lv, rfl, hoa, hb1⟩
  rw [HNN.out] at hoa
  obtain ⟨g, lac, rfl, hcap, hB, hg⟩ := own_some hoa h0
  have K := Lib.hid (show Kept w w1 from hb1)
  have OA := Lib.hid hoa
  have HG := Lib.hid hg
  have HB := Lib.hid hB
  clear hb1 hoa hB hg
  clear htm hnz hnz2 hb0 h40
  have s1 := fun W => vsl_from' g n lac k hkl hcap W
  have s2 := fun W => vsl_to' g n lac k hkl hcap W
  have OX := Lib.hid (show w1.ownsRow w.heap.size 24 4 (.slice (some ⟨g, 0, none⟩) n lac) n (rowCells (xs.map np)) from OA.out)
  obtain ⟨i0, hi0, hz0, hz1, hz2⟩ := info_parts info_val
  have HL := Lib.hid (show (xs.map np).length = n by rw [List.length_map]; exact HNN.out)
  have HN := Lib.hid (show 0 + (n - k) ≤ maxLen ∧ (0 + (n - k)) * 56 ≤ 140737488355328 ∧ 0 + (n - k) + k ≤ maxLen ∧ (0 + (n - k) + k) * 56 ≤ 140737488355328 by unfold maxLen; omega)
  go_upto_region 5 with fail
  go_cut [9] (fun s9 wx => ∃ v', s9 = v' ∧ Below w1.heap.size w1 wx ∧ wx.ownsRow w1.heap.size 24 4 v' n (rowCells ((xs.map np).drop k) ++ rowCells ((xs.map np).take k)))
  case first =>
    go_region_law (first
      | (refine step_append_any (by rfl) _ _ _ (by rfl) w1.heap.size 24 i0 _ 4 56 Tryd.underlying22 hi0 hz0 hz1 hz2 rfl (by omega) (.slice (some ⟨w1.heap.size, 0, none⟩) 0 0) 0 [] (by rfl) ?_ ⟨g, k * 4, none⟩ (n - k) (lac - k) (rowCells ((xs.map np).drop k)) (by rfl) ?_ ?_ ?_ HN.out.1 HN.out.2.1 ?_ ?_; (· first | exact own_new w1 w1 rfl | exact own_new w1 w1.drew rfl); (· rw [rowCells_len, List.length_drop, HL.out]); (· exact fun j u hu => hold (by first | exact below_al (Below.refl _ _) _ | exact below_al (below_drew (Below.refl _ _)) _) (own_at OX.out k j u hu)); (· rw [← List.map_drop]; exact np_one _); (· simp); intro v1 w2 hown1 hgrow1)
      | (refine step_append_any (by rfl) _ _ _ (by rfl) w1.heap.size 24 i0 _ 4 56 Tryd.underlying22 hi0 hz0 hz1 hz2 rfl (by omega) v1 (0 + (n - k)) ([] ++ rowCells ((xs.map np).drop k)) (by rfl) ?_ ⟨g, 0, none⟩ k lac (rowCells ((xs.map np).take k)) (by rfl) ?_ ?_ ?_ HN.out.2.2.1 HN.out.2.2.2 ?_ ?_; (· exact hown1); (· rw [rowCells_len, List.length_take, HL.out, Nat.min_eq_left (Nat.le_of_lt hkl)]); (· exact fun j u hu => grown_keep hgrow1 (hold (by first | exact below_al (Below.refl _ _) _ | exact below_al (below_drew (Below.refl _ _)) _) (own_front OX.out k j u hu)) (fun k' hk' e => by have h1 := HG.out; simp only [Value.ownBlock, Option.some.injEq] at hk'; rw [add_block] at e; omega)); (· rw [← List.map_take]; exact np_one _); (· have := hgrow1.size; simp at this; omega); intro v2 w3 hown2 hgrow2))
    all_goals go_wp2
    all_goals go_meet
    refine ⟨v2, rfl, ?_, ?_⟩
    · have b1 : Below w1.heap.size w1 w2 := below_grown' (below_drew (below_al (Below.refl _ _) _)) hgrow1 (fun k' hk' => by simp [Value.ownBlock] at hk'; omega)
      exact below_grown' b1 hgrow2 (fun k' hk' => (World.ownsRow.lt hown1 k' hk').1)
    · rw [show 0 + (n - k) + k = n by omega, List.nil_append] at hown2
      exact hown2
  case rest =>
  obtain ⟨v', rfl, hbx, hox⟩ := hcut
  obtain ⟨ro, rc, rfl⟩ := own_len hox
  replace K := Lib.hid (kept_tr K.out hbx)
  have RD := Lib.hid (show RowRd wc 1 ((turned xs k).map vnum) (.slice ro n rc) from np_rd (xs := turned xs k) (by
    rw [turned_len, HNN.out]
    unfold turned
    rw [List.map_append, rowCells_app, List.map_drop, List.map_take]
    exact hox) (by rw [turned_len, HNN.out]; omega))
  clear hbx hox OX OA s1 s2 HN HL i0 hi0 hz0 hz1 hz2 hcap
  obtain ⟨x0, hx0⟩ : ∃ x, xs[0]? = some x := ⟨_, List.getElem?_eq_getElem (by rw [HNN.out]; exact h0)⟩
  obtain ⟨ao2, cap2, e2, hc⟩ := H.out.below (show Below w.heap.size w wc from K.out)
  rw [HNN.out] at e2
  simp only [Value.slice.injEq, true_and] at e2
  obtain ⟨rfl, rfl⟩ := e2
  obtain ⟨ga, oa, rfl, c0⟩ := hc 0 x0 hx0
  rw [Nat.add_zero] at c0
  have hx32 := HX.out x0 (List.mem_of_getElem? hx0)
  have HC := Lib.hid hc
  have hgl := World.block_lt_of_cell? _ _ c0
  simp only at hgl
  have hn1 : (0 : Int) < (n : Int) := by omega
  have wx0 : IntKind.i64.wrap x0 = x0 := by rw [IntKind.wrap_i64]; omega
  clear hc
  go_upto_region 6 with fail
  go_quiet (fail)
  go_wp2
  replace K := Lib.hid (show Kept w _ from below_drewN K.out nq)
  replace RD := Lib.hid (RD.out.below (below_drewN (Below.refl _ _) nq))
  have C0 := Lib.hid (show ∀ (j : Nat) (x : Int), xs[j]? = some x → (wc.drewN nq).cell? ⟨ga, oa + j, none⟩ = some (.int .i32 x) from fun j x hj => by
    obtain ⟨g', o', e, hw⟩ := HC.out j x hj
    simp only [Option.some.injEq, Addr.mk.injEq, and_true] at e
    obtain ⟨rfl, rfl⟩ := e
    exact hw)
  clear c0 hgl wx0 HC
  generalize wc.drewN nq = wd at *
  go_loopg [10, 11, 12, 13, 14] n (fun m sv lv hv nv iv wr => ∃ (i : Nat) (s lo hi : Int), iv = .int .i64 i ∧ sv = .int .i64 s ∧ lv = .int .i64 lo ∧ hv = .int .i64 hi ∧ nv = .int .i64 (boolN (inB (xs.take i) o)) ∧ n - i ≤ m ∧ i ≤ n ∧ (-2147483648 * (i : Int) ≤ s ∧ s ≤ 2147483648 * (i : Int)) ∧ Hid (s = (xs.take i).sum) ∧ Hid (IsMin lo (x0 :: xs.take i)) ∧ Hid (IsMax hi (x0 :: xs.take i)) ∧ wr = wd)
  case atStart => exact ⟨0, 0, x0, x0, rfl, rfl, rfl, rfl, rfl, Nat.le_refl _, Nat.zero_le _, by omega, Lib.hid rfl, Lib.hid ⟨by simp, by simp⟩, Lib.hid ⟨by simp, by simp⟩, rfl⟩
  case round =>
    obtain ⟨i, s, lo, hi, rfl, rfl, rfl, rfl, rfl, hm, hin, hs, SS, LO, HI, rfl⟩ := hrel
    have HM := Lib.hid hm
    have HS := Lib.hid hs
    clear hm
    by_cases hil : i < n
    · obtain ⟨x, hx⟩ : ∃ x, xs[i]? = some x := ⟨_, List.getElem?_eq_getElem (by rw [HNN.out]; exact hil)⟩
      have hc := C0.out i x hx
      have hx3 := HX.out x (List.mem_of_getElem? hx)
      have TK := Lib.hid (show xs.take (i + 1) = xs.take i ++ [x] by rw [List.take_add_one, hx]; rfl)
      have S1 := Lib.hid (show s + x = (xs.take (i + 1)).sum by rw [TK.out, List.sum_append, SS.out]; simp)
      have L1 := Lib.hid (show IsMin (if x < lo then x else lo) (x0 :: xs.take (i + 1)) by
        rw [TK.out, ← List.cons_append]
        by_cases h : x < lo
        · rw [if_pos h]; exact (isMin_succ LO.out).1 h
        · rw [if_neg h]; exact (isMin_succ LO.out).2 h)
      have H1 := Lib.hid (show IsMax (if hi < x then x else hi) (x0 :: xs.take (i + 1)) by
        rw [TK.out, ← List.cons_append]
        by_cases h : hi < x
        · rw [if_pos h]; exact (isMax_succ HI.out).1 h
        · rw [if_neg h]; exact (isMax_succ HI.out).2 h)
      have C1 := Lib.hid (show inB (xs.take (i + 1)) o = (inB (xs.take i) o || x == o) by
        unfold inB
        rw [TK.out, Bool.eq_iff_iff]
        simp only [List.contains_iff_mem, List.mem_append, List.mem_singleton, Bool.or_eq_true, beq_iff_eq]
        constructor
        · rintro (h | h)
          · exact .inl h
          · exact .inr h.symm
        · rintro (h | h)
          · exact .inl h
          · exact .inr h.symm)
      have hs9 : -200000000000 ≤ s ∧ s ≤ 200000000000 := by omega
      have i9 : i ≤ 9000 := by omega
      clear hx hs
      have CB := Lib.hid C1.out
      by_cases hlo : x < lo
      · have L2 := Lib.hid (show IsMin x (x0 :: xs.take (i + 1)) by have h := L1.out; rw [if_pos hlo] at h; exact h)
        by_cases hhi : hi < x
        · have H2 := Lib.hid (show IsMax x (x0 :: xs.take (i + 1)) by have h := H1.out; rw [if_pos hhi] at h; exact h)
          cases hxo : (x == o)
          · have C2 := Lib.hid (show inB (xs.take (i + 1)) o = inB (xs.take i) o by rw [C1.out, hxo, Bool.or_false])
            go_wp2_with fail
            go_roundg (n - (i + 1))
            case rel => exact ⟨i + 1, s + x, x, x, rfl, rfl, rfl, rfl, by rw [C2.out], Nat.le_refl _, hil, by have := HS.out; omega, S1, L2, H2, rfl⟩
            case measure => have := HM.out; omega
          · have C2 := Lib.hid (show inB (xs.take (i + 1)) o = true by rw [C1.out, hxo, Bool.or_true])
            go_wp2_with fail
            go_roundg (n - (i + 1))
            case rel => exact ⟨i + 1, s + x, x, x, rfl, rfl, rfl, rfl, by rw [C2.out]; rfl, Nat.le_refl _, hil, by have := HS.out; omega, S1, L2, H2, rfl⟩
            case measure => have := HM.out; omega
        · have H2 := Lib.hid (show IsMax hi (x0 :: xs.take (i + 1)) by have h := H1.out; rw [if_neg hhi] at h; exact h)
          cases hxo : (x == o)
          · have C2 := Lib.hid (show inB (xs.take (i + 1)) o = inB (xs.take i) o by rw [C1.out, hxo, Bool.or_false])
            go_wp2_with fail
            go_roundg (n - (i + 1))
            case rel => exact ⟨i + 1, s + x, x, hi, rfl, rfl, rfl, rfl, by rw [C2.out], Nat.le_refl _, hil, by have := HS.out; omega, S1, L2, H2, rfl⟩
            case measure => have := HM.out; omega
          · have C2 := Lib.hid (show inB (xs.take (i + 1)) o = true by rw [C1.out, hxo, Bool.or_true])
            go_wp2_with fail
            go_roundg (n - (i + 1))
            case rel => exact ⟨i + 1, s + x, x, hi, rfl, rfl, rfl, rfl, by rw [C2.out]; rfl, Nat.le_refl _, hil, by have := HS.out; omega, S1, L2, H2, rfl⟩
            case measure => have := HM.out; omega
      · have L2 := Lib.hid (show IsMin lo (x0 :: xs.take (i + 1)) by have h := L1.out; rw [if_neg hlo] at h; exact h)
        by_cases hhi : hi < x
        · have H2 := Lib.hid (show IsMax x (x0 :: xs.take (i + 1)) by have h := H1.out; rw [if_pos hhi] at h; exact h)
          cases hxo : (x == o)
          · have C2 := Lib.hid (show inB (xs.take (i + 1)) o = inB (xs.take i) o by rw [C1.out, hxo, Bool.or_false])
            go_wp2_with fail
            go_roundg (n - (i + 1))
            case rel => exact ⟨i + 1, s + x, lo, x, rfl, rfl, rfl, rfl, by rw [C2.out], Nat.le_refl _, hil, by have := HS.out; omega, S1, L2, H2, rfl⟩
            case measure => have := HM.out; omega
          · have C2 := Lib.hid (show inB (xs.take (i + 1)) o = true by rw [C1.out, hxo, Bool.or_true])
            go_wp2_with fail
            go_roundg (n - (i + 1))
            case rel => exact ⟨i + 1, s + x, lo, x, rfl, rfl, rfl, rfl, by rw [C2.out]; rfl, Nat.le_refl _, hil, by have := HS.out; omega, S1, L2, H2, rfl⟩
            case measure => have := HM.out; omega
        · have H2 := Lib.hid (show IsMax hi (x0 :: xs.take (i + 1)) by have h := H1.out; rw [if_neg hhi] at h; exact h)
          cases hxo : (x == o)
          · have C2 := Lib.hid (show inB (xs.take (i + 1)) o = inB (xs.take i) o by rw [C1.out, hxo, Bool.or_false])
            go_wp2_with fail
            go_roundg (n - (i + 1))
            case rel => exact ⟨i + 1, s + x, lo, hi, rfl, rfl, rfl, rfl, by rw [C2.out], Nat.le_refl _, hil, by have := HS.out; omega, S1, L2, H2, rfl⟩
            case measure => have := HM.out; omega
          · have C2 := Lib.hid (show inB (xs.take (i + 1)) o = true by rw [C1.out, hxo, Bool.or_true])
            go_wp2_with fail
            go_roundg (n - (i + 1))
            case rel => exact ⟨i + 1, s + x, lo, hi, rfl, rfl, rfl, rfl, by rw [C2.out]; rfl, Nat.le_refl _, hil, by have := HS.out; omega, S1, L2, H2, rfl⟩
            case measure => have := HM.out; omega
    · have ei : i = n := by omega
      have e : xs.take i = xs := List.take_of_length_le (by rw [HNN.out]; omega)
      rw [e] at SS LO HI ⊢
      have hmem : x0 ∈ xs := List.mem_of_getElem? hx0
      have MN := Lib.hid (show IsMin lo xs by
        refine ⟨?_, fun y hy => LO.out.2 y (List.mem_cons_of_mem _ hy)⟩
        rcases List.mem_cons.1 LO.out.1 with h | h
        · rw [h]; exact hmem
        · exact h)
      have MX := Lib.hid (show IsMax hi xs by
        refine ⟨?_, fun y hy => HI.out.2 y (List.mem_cons_of_mem _ hy)⟩
        rcases List.mem_cons.1 HI.out.1 with h | h
        · rw [h]; exact hmem
        · exact h)
      subst ei
      clear e hs HS HM hil LO HI
      go_wp2_with fail
      have YL := Lib.hid (show (turned xs k).length = i by rw [turned_len]; exact HNN.out)
      have Y32 := Lib.hid (show In32 (turned xs k) from fun x hx => HX.out x ((turned_mem xs k x).1 hx))
      have YS := Lib.hid (show (turned xs k).sum = s by rw [turned_sum, SS.out])
      have YN := Lib.hid (turned_min (k := k) MN.out)
      have YX := Lib.hid (turned_max (k := k) MX.out)
      have YC := Lib.hid (show (turned xs k).contains o = inB xs o from has_turned xs k o)
      generalize turned xs k = ys at *
      generalize hib : inB xs o = ib at *
      clear hib
      have X := Lib.hid (show VBlk (wr.alloc (.cells #[.int .i64 4, .int .i64 0, .string ⟨#[]⟩, .slice ro i rc] 24)) wr.heap.size (VL.mk 4 0 ⟨#[]⟩ (ys.map vnum)) (.slice ro i rc) from VBlk.new wr (VL.mk 4 0 ⟨#[]⟩ (ys.map vnum)) (.slice ro i rc))
      replace RD := Lib.hid (RD.out.below (below_al (Below.refl _ _) (.cells #[.int .i64 4, .int .i64 0, .string ⟨#[]⟩, .slice ro i rc] 24)))
      replace K := Lib.hid (kept_al K.out (.cells #[.int .i64 4, .int .i64 0, .string ⟨#[]⟩, .slice ro i rc] 24))
      rw [show wr.heap.size + 1 = (wr.alloc (.cells #[.int .i64 4, .int .i64 0, .string ⟨#[]⟩, .slice ro i rc] 24)).heap.size by simp]
      generalize wr.alloc (.cells #[.int .i64 4, .int .i64 0, .string ⟨#[]⟩, .slice ro i rc] 24) = v1 at *
      generalize wr.heap.size = GX at X ⊢
      clear C0 hmem hx0 hx32
      have h40' : ys.length ≤ 40 := by rw [YL.out]; exact hl
      refine (n_sum _ ys _ (RD.out.below (below_al (Below.refl _ _) _)) v1.heap.size (heap_at rfl) Y32.out h40').mono ?_
      rintro e w2 ⟨rfl, hb⟩
      rw [YS.out]
      replace X := Lib.hid (X.out.below (below_tr (below_al (Below.refl _ _) _) hb))
      replace RD := Lib.hid (RD.out.below (below_tr (below_al (Below.refl _ _) _) hb))
      replace K := Lib.hid (kept_tr K.out (below_tr (below_al (Below.refl _ _) _) hb))
      clear hb
      go_wp2_with fail
      have A := Lib.hid (NBlk.new w2 1 s ⟨#[]⟩)
      replace X := Lib.hid (X.out.below (below_al (Below.refl _ _) (.cells #[.int .i64 1, .int .i64 s, .string ⟨#[]⟩, .slice none 0 0] 24)))
      replace RD := Lib.hid (RD.out.below (below_al (Below.refl _ _) (.cells #[.int .i64 1, .int .i64 s, .string ⟨#[]⟩, .slice none 0 0] 24)))
      replace K := Lib.hid (kept_al K.out (.cells #[.int .i64 1, .int .i64 s, .string ⟨#[]⟩, .slice none 0 0] 24))
      generalize w2.alloc (.cells #[.int .i64 1, .int .i64 s, .string ⟨#[]⟩, .slice none 0 0] 24) = v2 at *
      generalize w2.heap.size = GA at A ⊢
      refine (n_min _ ys _ RD.out (by rw [YL.out]; exact h0) h40' lo YN.out).mono ?_
      rintro e w3 ⟨rfl, hb⟩
      replace X := Lib.hid (X.out.below hb)
      replace A := Lib.hid (A.out.below hb)
      replace RD := Lib.hid (RD.out.below hb)
      replace K := Lib.hid (kept_tr K.out hb)
      clear hb
      go_wp2_with fail
      have B := Lib.hid (NBlk.new w3 1 lo ⟨#[]⟩)
      replace X := Lib.hid (X.out.below (below_al (Below.refl _ _) (.cells #[.int .i64 1, .int .i64 lo, .string ⟨#[]⟩, .slice none 0 0] 24)))
      replace A := Lib.hid (A.out.below (below_al (Below.refl _ _) (.cells #[.int .i64 1, .int .i64 lo, .string ⟨#[]⟩, .slice none 0 0] 24)))
      replace RD := Lib.hid (RD.out.below (below_al (Below.refl _ _) (.cells #[.int .i64 1, .int .i64 lo, .string ⟨#[]⟩, .slice none 0 0] 24)))
      replace K := Lib.hid (kept_al K.out (.cells #[.int .i64 1, .int .i64 lo, .string ⟨#[]⟩, .slice none 0 0] 24))
      generalize w3.alloc (.cells #[.int .i64 1, .int .i64 lo, .string ⟨#[]⟩, .slice none 0 0] 24) = v3 at *
      generalize w3.heap.size = GB at B ⊢
      refine (n_max _ ys _ RD.out (by rw [YL.out]; exact h0) h40' hi YX.out).mono ?_
      rintro e w4 ⟨rfl, hb⟩
      replace X := Lib.hid (X.out.below hb)
      replace A := Lib.hid (A.out.below hb)
      replace B := Lib.hid (B.out.below hb)
      replace RD := Lib.hid (RD.out.below hb)
      replace K := Lib.hid (kept_tr K.out hb)
      clear hb
      obtain ⟨x0', x1', x2', x3'⟩ := X.out.cells
      replace x0' : w4.cell? ⟨GX, 0, none⟩ = some (.int .i64 4) := x0'
      replace x1' : w4.cell? ⟨GX, 1, none⟩ = some (.int .i64 0) := x1'
      replace x2' : w4.cell? ⟨GX, 2, none⟩ = some (.string ⟨#[]⟩) := x2'
      have xl' := X.out.lt
      go_wp2_with fail
      clear x0' x1' x2' x3' xl'
      have D := Lib.hid (NBlk.new w4 1 hi ⟨#[]⟩)
      replace X := Lib.hid (X.out.below (below_al (Below.refl _ _) (.cells #[.int .i64 1, .int .i64 hi, .string ⟨#[]⟩, .slice none 0 0] 24)))
      replace A := Lib.hid (A.out.below (below_al (Below.refl _ _) (.cells #[.int .i64 1, .int .i64 hi, .string ⟨#[]⟩, .slice none 0 0] 24)))
      replace B := Lib.hid (B.out.below (below_al (Below.refl _ _) (.cells #[.int .i64 1, .int .i64 hi, .string ⟨#[]⟩, .slice none 0 0] 24)))
      replace RD := Lib.hid (RD.out.below (below_al (Below.refl _ _) (.cells #[.int .i64 1, .int .i64 hi, .string ⟨#[]⟩, .slice none 0 0] 24)))
      replace K := Lib.hid (kept_al K.out (.cells #[.int .i64 1, .int .i64 hi, .string ⟨#[]⟩, .slice none 0 0] 24))
      rw [show w4.heap.size + 1 = (w4.alloc (.cells #[.int .i64 1, .int .i64 hi, .string ⟨#[]⟩, .slice none 0 0] 24)).heap.size by simp]
      generalize w4.alloc (.cells #[.int .i64 1, .int .i64 hi, .string ⟨#[]⟩, .slice none 0 0] 24) = v4 at *
      generalize w4.heap.size = GD at D ⊢
      refine (n_len _ ys _ (RD.out.below (below_al (Below.refl _ _) _)) v4.heap.size (heap_at rfl)).mono ?_
      rintro e w5 ⟨rfl, hb⟩
      rw [YL.out]
      replace X := Lib.hid (X.out.below (below_tr (below_al (Below.refl _ _) _) hb))
      replace A := Lib.hid (A.out.below (below_tr (below_al (Below.refl _ _) _) hb))
      replace B := Lib.hid (B.out.below (below_tr (below_al (Below.refl _ _) _) hb))
      replace D := Lib.hid (D.out.below (below_tr (below_al (Below.refl _ _) _) hb))
      replace RD := Lib.hid (RD.out.below (below_tr (below_al (Below.refl _ _) _) hb))
      replace K := Lib.hid (kept_tr K.out (below_tr (below_al (Below.refl _ _) _) hb))
      clear hb
      go_upto_region 20 with fail
      have F := Lib.hid (NBlk.new w5 1 (i : Int) ⟨#[]⟩)
      replace X := Lib.hid (X.out.below (below_al (Below.refl _ _) (.cells #[.int .i64 1, .int .i64 (i : Int), .string ⟨#[]⟩, .slice none 0 0] 24)))
      replace A := Lib.hid (A.out.below (below_al (Below.refl _ _) (.cells #[.int .i64 1, .int .i64 (i : Int), .string ⟨#[]⟩, .slice none 0 0] 24)))
      replace B := Lib.hid (B.out.below (below_al (Below.refl _ _) (.cells #[.int .i64 1, .int .i64 (i : Int), .string ⟨#[]⟩, .slice none 0 0] 24)))
      replace D := Lib.hid (D.out.below (below_al (Below.refl _ _) (.cells #[.int .i64 1, .int .i64 (i : Int), .string ⟨#[]⟩, .slice none 0 0] 24)))
      replace RD := Lib.hid (RD.out.below (below_al (Below.refl _ _) (.cells #[.int .i64 1, .int .i64 (i : Int), .string ⟨#[]⟩, .slice none 0 0] 24)))
      replace K := Lib.hid (kept_al K.out (.cells #[.int .i64 1, .int .i64 (i : Int), .string ⟨#[]⟩, .slice none 0 0] 24))
      generalize w5.alloc (.cells #[.int .i64 1, .int .i64 (i : Int), .string ⟨#[]⟩, .slice none 0 0] 24) = v5 at *
      generalize w5.heap.size = GF at F ⊢
      have LM := Lib.hid (show i = (ys.map vnum).length by rw [List.length_map, YL.out])
      have X2 := Lib.hid (show VBlk v5 GX (VL.mk 4 0 ⟨#[]⟩ (ys.map vnum)) (.slice ro (ys.map vnum).length rc) by rw [← LM.out]; exact X.out)
      have R2 := Lib.hid (show RowRd v5 1 (ys.map vnum) (.slice ro (ys.map vnum).length rc) by rw [← LM.out]; exact RD.out)
      have TI := Lib.hid (fun V (hV : Below v5.heap.size v5 V) g' hg' => n_has V ys _ o (R2.out.below hV) g' hg')
      rw [YC.out] at TI
      go_cut [24, 25] (fun s24 s25 wx => ∃ gx : Nat, s24 = .pointer (some ⟨gx, 0, none⟩) ∧ s25 = .int .i64 0 ∧ AtKN wx gx 3 (boolN ib) ∧ Below v5.heap.size v5 wx)
      case first =>
        refine reg20 ho X2 TI ?_
        intro y116 y117 y118 y119 y120 y121 y122 y123 y124 gx wx hwx hat
        dsimp only
        go_wp2
        go_meet
        case rel => exact ⟨gx, rfl, rfl, hat, hwx⟩
      case rest =>
      obtain ⟨gx, rfl, rfl, hat, hbx⟩ := hcut
      replace A := Lib.hid (A.out.below hbx)
      replace B := Lib.hid (B.out.below hbx)
      replace D := Lib.hid (D.out.below hbx)
      replace F := Lib.hid (F.out.below hbx)
      replace K := Lib.hid (kept_tr K.out hbx)
      obtain ⟨q0, q1, ql⟩ := hat
      obtain ⟨ac0, ac1, ac2, ac3, acl⟩ := A.out.cells
      obtain ⟨bc0, bc1, bc2, bc3, bcl⟩ := B.out.cells
      obtain ⟨dc0, dc1, dc2, dc3, dcl⟩ := D.out.cells
      obtain ⟨fc0, fc1, fc2, fc3, fcl⟩ := F.out.cells
      clear hbx X2 R2 TI X RD
      generalize boolN ib = bn at *
      go_wp2_with fail
      refine (law_awake5 _).mono ?_
      rintro e wz ⟨rfl, hb⟩
      replace K := Lib.hid (kept_tr K.out hb)
      clear hb
      go_wp2_with fail
      go_ret
      exact ⟨rfl, K.out⟩
theorem law_numbers (v : Value) (xs : List Int) (o : Int) (t : Nat) (h : NumsRd .i32 w v xs) (hx : In32 xs) (hl : xs.length ≤ maxLen) (ho : -2147483648 ≤ o ∧ o ≤ 2147483647) (ht : t < 256) :
    Calls Tryd.prog 6 #[v, .int .i32 o, .int .u8 t] w (Made (.bool true) w) := by
  by_cases hg : 0 < xs.length ∧ xs.length ≤ 40
  · exact numbers_go w v xs o t h hx hg.1 hg.2 ho ht
  · obtain ⟨ao, cap, rfl⟩ := h.shape
    unfold maxLen at hl
    by_cases h0 : xs.length = 0
    · rw [h0]
      clear hg h hx
      go_enter Tryd.func6, Tryd.ntmps6
      go_wp2_with fail
      refine (law_awake5 _).mono ?_
      rintro e w2 ⟨rfl, hb⟩
      go_wp2_with fail
      go_ret
      exact ⟨rfl, hb⟩
    · have h40 : 40 < xs.length := by omega
      obtain ⟨n, hn⟩ : ∃ n, xs.length = n := ⟨_, rfl⟩
      rw [hn] at h40 h0 hl ⊢
      have hb0 : ((n : Int) == 0) = false := by simp; omega
      clear hg h hx hn
      go_enter Tryd.func6, Tryd.ntmps6
      go_wp2_with fail
      refine (law_awake5 _).mono ?_
      rintro e w2 ⟨rfl, hb⟩
      go_wp2_with fail
      go_ret
      exact ⟨rfl, hb⟩
end
end Go.Proofs.YtihlbnflgjidaaaDoor
