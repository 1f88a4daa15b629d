/- Declared trees: the document's Check, walked. -/
import Derived.Test.YtmiadhcmhnjmfaaWnB
namespace Go.Proofs.Ytmiadhcmhnjmfaa
open Go.RowKit
set_option linter.unusedVariables false
set_option linter.unusedSimpArgs false
theorem add_nought (g o : Nat) : (⟨g, o, none⟩ : Addr).add (0 * 5) = ⟨g, o, none⟩ := by unfold Addr.add; split <;> simp_all
theorem elemWant : Try.prog.elem 22 = 39 := by kernel_rfl
theorem sizeWant (w : World) : (sizeOf (Try.prog.elem 22)).run Try.prog w = .ok 5 w := by kernel_rfl
theorem wsl_to (g o n cap k : Nat) (h : k ≤ cap) (W : World) : (Instr.slice 22 (.slice (some ⟨g, o, none⟩) n cap) none (some (.int .i64 (k : Int))) none).run Try.prog W = .ok (.slice (some ⟨g, o, none⟩) k cap) W := by
  rw [run_slice_h (P := Try.prog) W 22 (some ⟨g, o, none⟩) n cap (by rw [elemWant]; exact Try.underlying22) .i64 k (by omega) (by omega), sizeWant]
  simp [Result.andThen, sliced, add_nought]
  have := add_nought g o
  intro _
  simpa using this
section
variable (w : World)
set_option maxHeartbeats 16000000 in
set_option maxRecDepth 100000 in
theorem rcheck (l : List W5) (lv : Value) (h : WRow w l lv) (hs : ∀ x ∈ l, x.name.size ≤ 1000000) :
    Calls Try.prog 10 #[lv] w (Made (.int .i64 (checkL l)) w) := by
  have H0 := Lib.hid h
  have HS := Lib.hid hs
  obtain ⟨ao, cap, rfl, hcap, hmax, hat⟩ := h
  have HAT := Lib.hid hat
  unfold maxLen at hmax
  have hl63 : l.length ≤ 9223372036854775807 := by omega
  clear hat hs
  by_cases hbig : 120 < l.length
  · have R := Lib.hid (show checkL l = 4 by unfold checkL; rw [if_pos hbig])
    clear hcap hmax
    go_enter Try.func10, Try.ntmps10
    go_wp2_with fail
    go_ret
    exact ⟨by rw [R.out]; rfl, Below.refl _ _⟩
  have RW := Lib.hid (fun W (hW : Below w.heap.size w W) s => rwanted W l (.slice ao l.length cap) (H0.out.below hW) s)
  have RK := Lib.hid (fun W (hW : Below w.heap.size w W) k (hk : k ≤ l.length) s => rwanted W (l.take k) (.slice ao k cap) ((H0.out.below hW).take k hk) s)
  have DP := Lib.hid (fun W (hW : Below w.heap.size w W) s => rdepth W l (.slice ao l.length cap) (H0.out.below hW) (by omega) s)
  have hl : l.length ≤ 120 := by omega
  have CK := Lib.hid (show checkL l = if scanE (c1W l) 0 l ≠ 0 then scanE (c1W l) 0 l else if scanE (c2W l) 0 l ≠ 0 then scanE (c2W l) 0 l else if scanE (c3W l) 0 l ≠ 0 then scanE (c3W l) 0 l else scanE (c4W l) 0 l by unfold checkL; rw [if_neg hbig])
  have HC := Lib.hid hcap
  clear hbig hcap hmax hl63
  go_enter Try.func10, Try.ntmps10
  go_wp2_with fail
  go_loopg [3] l.length (fun m iv wr => ∃ k : Nat, iv = .int .i64 k ∧ l.length - k ≤ m ∧ k ≤ l.length ∧ Below w.heap.size w wr ∧ Hid (OKto (c1W l) l k))
  case atStart => exact ⟨0, rfl, Nat.le_refl _, Nat.zero_le _, Below.refl _ _, Lib.hid (OKto.zero _ _)⟩
  case round =>
    obtain ⟨k, rfl, hm, hk, hb, OK⟩ := hrel
    have HM := Lib.hid hm
    have BR := Lib.hid hb
    clear hm hb
    by_cases hlt : k < l.length
    · obtain ⟨u, hu⟩ : ∃ u, l[k]? = some u := ⟨_, List.getElem?_eq_getElem hlt⟩
      have HU := Lib.hid hu
      obtain ⟨g, o, rfl, hat⟩ := HAT.out k u hu
      obtain ⟨k0, k1, k2, k3, k4⟩ := hat.below BR.out
      have KN := Lib.hid (HS.out u (List.mem_of_getElem? hu))
      have MN := Lib.hid (fun W => rmayname W u.name (by have := KN.out; omega))
      have MV := Lib.hid (fun W => rmay_any W u.lim)
      clear hu hat
      cases hn : nameB u.name with
      | false =>
        have R := Lib.hid (show checkL l = 1 by
          have := OK.out.err HU.out (e := 1) (by unfold c1W; rw [if_pos hn]) (by decide)
          rw [CK.out, if_pos (by rw [this]; decide), this])
        simp only [hn] at MN
        clear hn
        go_wp2_with fail
        with_reducible refine (MN.out _).mono ?_
        rintro e w1 ⟨rfl, rfl⟩
        go_wp2_with fail
        go_ret
        exact ⟨by rw [R.out]; rfl, BR.out⟩
      | true =>
        have HN := Lib.hid hn
        simp only [hn] at MN
        clear hn
        go_wp2_with fail
        with_reducible refine (MN.out _).mono ?_
        rintro e w1 ⟨rfl, rfl⟩
        go_wp2_with fail
        cases hv : mayV u.lim with
        | false =>
          have R := Lib.hid (show checkL l = 1 by
            have := OK.out.err HU.out (e := 1) (by unfold c1W; rw [if_neg (by rw [HN.out]; decide), if_pos hv]) (by decide)
            rw [CK.out, if_pos (by rw [this]; decide), this])
          simp only [hv] at MV
          clear hv
          with_reducible refine (MV.out _).mono ?_
          rintro e w1 ⟨rfl, h1⟩
          go_wp2_with fail
          go_ret
          exact ⟨by rw [R.out]; rfl, below_tr BR.out h1⟩
        | true =>
          have HV := Lib.hid hv
          simp only [hv] at MV
          clear hv
          with_reducible refine (MV.out _).mono ?_
          rintro e w1 ⟨rfl, h1⟩
          have B1 := Lib.hid (below_tr BR.out h1)
          replace k0 := hold h1 k0
          clear h1 k1 k2 k3 k4
          have SL := wsl_to g o l.length cap k (by have := HC.out; omega)
          have x0 : (0 : Int) ≤ (k : Int) := by omega
          have x1 : (k : Int) < (l.length : Int) := by omega
          have W1 := Lib.hid (fun W (hW : Below w1.heap.size w1 W) => RK.out W (below_tr B1.out hW) k hk u.name)
          have WI := Lib.hid (show wantedL (l.take k) u.name = match wIdx (l.take k) u.name with | some k => (k : Int) | none => -1 from rfl)
          cases hw : wIdx (l.take k) u.name with
          | some j =>
            have R := Lib.hid (show checkL l = 3 by
              have := OK.out.err HU.out (e := 3) (by unfold c1W; rw [if_neg (by rw [HN.out]; decide), if_neg (by rw [HV.out]; decide), if_pos (by rw [hw]; rfl)]) (by decide)
              rw [CK.out, if_pos (by rw [this]; decide), this])
            replace W1 : Hid (∀ W, Below w1.heap.size w1 W → Calls Try.prog 24 #[.slice (some ⟨g, o, none⟩) k cap, .string u.name] W fun e w' => e = .returned (.int .i64 (j : Int)) ∧ W = w') := fun W hW => by
              have := W1.out W hW
              rw [WI.out, hw] at this
              exact this
            have y0 : (0 : Int) ≤ (j : Int) := by omega
            clear hw WI
            go_wp2_with fail
            refine wp_region_mono (by kernel_rfl) (by kernel_rfl) ?_
            simp only [List.map_cons, List.map_nil]
            repeat (first
              | (apply wpM_is
                 · (intro us W hW hg K hK
                    clear hg
                    have c0 := hold hW k0
                    simp only [fillA]
                    go_simp
                    first
                    | exact hK _ (Below.refl _ _)
                    | ((with_reducible refine (W1.out _ hW).mono ?_); rintro e w' ⟨rfl, rfl⟩; exact hK _ (Below.refl _ _)))
                 simp only [setD, List.set_cons_zero, List.set_cons_succ]))
            intro us W hW hg
            simp only [fillA]
            clear hg
            go_wp2_with fail
            go_ret
            exact ⟨by rw [R.out]; rfl, below_tr B1.out hW⟩
          | none =>
            have NX := Lib.hid (OK.out.next HU.out (by unfold c1W; rw [if_neg (by rw [HN.out]; decide), if_neg (by rw [HV.out]; decide), if_neg (by rw [hw]; decide)]))
            replace W1 : Hid (∀ W, Below w1.heap.size w1 W → Calls Try.prog 24 #[.slice (some ⟨g, o, none⟩) k cap, .string u.name] W fun e w' => e = .returned (.int .i64 (-1)) ∧ W = w') := fun W hW => by
              have := W1.out W hW
              rw [WI.out, hw] at this
              exact this
            clear hw WI
            go_wp2_with fail
            refine wp_region_mono (by kernel_rfl) (by kernel_rfl) ?_
            simp only [List.map_cons, List.map_nil]
            repeat (first
              | (apply wpM_is
                 · (intro us W hW hg K hK
                    clear hg
                    have c0 := hold hW k0
                    simp only [fillA]
                    go_simp
                    first
                    | exact hK _ (Below.refl _ _)
                    | ((with_reducible refine (W1.out _ hW).mono ?_); rintro e w' ⟨rfl, rfl⟩; exact hK _ (Below.refl _ _)))
                 simp only [setD, List.set_cons_zero, List.set_cons_succ]))
            intro us W hW hg
            simp only [fillA]
            clear hg
            go_wp2_with fail
            go_roundg (l.length - (k + 1))
            case rel => exact ⟨k + 1, by go_num, Nat.le_refl _, hlt, below_tr B1.out hW, NX⟩
            case measure => have := HM.out; omega
    · obtain rfl : k = l.length := by omega
      have P1 := Lib.hid OK.out.all
      have OK1 := OK
      have BR1 := BR
      clear hlt hk HM OK
      go_wp2_with fail
      clear BR
      go_loopg [4] l.length (fun m iv wr => ∃ k : Nat, iv = .int .i64 k ∧ l.length - k ≤ m ∧ k ≤ l.length ∧ Below w.heap.size w wr ∧ Hid (OKto (c2W l) l k))
      case atStart => exact ⟨0, rfl, Nat.le_refl _, Nat.zero_le _, BR1.out, Lib.hid (OKto.zero _ _)⟩
      case round =>
        obtain ⟨k, rfl, hm, hk, hb, OK⟩ := hrel
        have HM := Lib.hid hm
        have BR := Lib.hid hb
        clear hm hb
        by_cases hlt : k < l.length
        · obtain ⟨u, hu⟩ : ∃ u, l[k]? = some u := ⟨_, List.getElem?_eq_getElem hlt⟩
          have HU := Lib.hid hu
          obtain ⟨g, o, rfl, hat⟩ := HAT.out k u hu
          obtain ⟨k0, k1, k2, k3, k4⟩ := hat.below BR.out
          clear hu hat k0 k2 k3 k4
          by_cases hp : u.parent = ⟨#[]⟩
          · have e : u.parent.toList.isEmpty = true := by rw [tstr_empty]; exact decide_eq_true hp
            have e' : u.parent.toList = [] := by simpa using e
            have NX := Lib.hid (OK.out.next HU.out (by unfold c2W; rw [if_neg (by rintro ⟨h, -⟩; exact h hp)]))
            clear hp
            go_wp2_with fail
            go_roundg (l.length - (k + 1))
            case rel => exact ⟨k + 1, by go_num, Nat.le_refl _, hlt, BR.out, NX⟩
            case measure => have := HM.out; omega
          · have e : u.parent.toList.isEmpty = false := by rw [tstr_empty]; exact decide_eq_false hp
            have e' : ¬ u.parent.toList = [] := by simpa using e
            have HP := Lib.hid hp
            have W2 := Lib.hid (RW.out wr BR.out u.parent)
            have WI := Lib.hid (show wantedL l u.parent = match wIdx l u.parent with | some k => (k : Int) | none => -1 from rfl)
            clear hp
            cases hw : wIdx l u.parent with
            | none =>
              have R := Lib.hid (show checkL l = 2 by
                have := OK.out.err HU.out (e := 2) (by unfold c2W; rw [if_pos ⟨HP.out, hw⟩]) (by decide)
                rw [CK.out, if_neg (by rw [P1.out]; decide), if_pos (by rw [this]; decide), this])
              have E := Lib.hid (show wantedL l u.parent = -1 by rw [WI.out, hw])
              clear hw WI
              go_wp2_with fail
              with_reducible refine W2.out.mono ?_
              rintro e2 w2 ⟨rfl, rfl⟩
              rw [E.out]
              go_wp2_with fail
              go_ret
              exact ⟨by rw [R.out]; rfl, BR.out⟩
            | some j =>
              have NX := Lib.hid (OK.out.next HU.out (by unfold c2W; rw [if_neg (by rintro ⟨-, h⟩; rw [hw] at h; cases h)]))
              have E := Lib.hid (show wantedL l u.parent = (j : Int) by rw [WI.out, hw])
              have y0 : ¬ (j : Int) < 0 := by omega
              clear hw WI
              go_wp2_with fail
              with_reducible refine W2.out.mono ?_
              rintro e2 w2 ⟨rfl, rfl⟩
              rw [E.out]
              go_wp2_with fail
              go_roundg (l.length - (k + 1))
              case rel => exact ⟨k + 1, by go_num, Nat.le_refl _, hlt, BR.out, NX⟩
              case measure => have := HM.out; omega
        · obtain rfl : k = l.length := by omega
          have P2 := Lib.hid OK.out.all
          have BR2 := BR
          clear hlt hk HM OK
          go_wp2_with fail
          clear BR BR1 RW
          go_loopg [5] l.length (fun m iv wr => ∃ k : Nat, iv = .int .i64 k ∧ l.length - k ≤ m ∧ k ≤ l.length ∧ Below w.heap.size w wr ∧ Hid (OKto (c3W l) l k))
          case atStart => exact ⟨0, rfl, Nat.le_refl _, Nat.zero_le _, BR2.out, Lib.hid (OKto.zero _ _)⟩
          case round =>
            obtain ⟨k, rfl, hm, hk, hb, OK⟩ := hrel
            have HM := Lib.hid hm
            have BR := Lib.hid hb
            clear hm hb
            by_cases hlt : k < l.length
            · obtain ⟨u, hu⟩ : ∃ u, l[k]? = some u := ⟨_, List.getElem?_eq_getElem hlt⟩
              have HU := Lib.hid hu
              obtain ⟨g, o, rfl, hat⟩ := HAT.out k u hu
              obtain ⟨k0, k1, k2, k3, k4⟩ := hat.below BR.out
              have D2 := Lib.hid (DP.out wr BR.out u.name)
              clear hu hat k1 k2 k3 k4
              by_cases hd : depthL l u.name < 1
              · have R := Lib.hid (show checkL l = 10 by
                  have := OK.out.err HU.out (e := 10) (by unfold c3W; rw [if_pos hd]) (by decide)
                  rw [CK.out, if_neg (by rw [P1.out]; decide), if_neg (by rw [P2.out]; decide), if_pos (by rw [this]; decide), this])
                generalize depthL l u.name = dd at *
                go_wp2_with fail
                with_reducible refine D2.out.mono ?_
                rintro e2 w2 ⟨rfl, rfl⟩
                go_wp2_with fail
                go_ret
                exact ⟨by rw [R.out]; rfl, BR.out⟩
              · have NX := Lib.hid (OK.out.next HU.out (by unfold c3W; rw [if_neg hd]))
                generalize depthL l u.name = dd at *
                go_wp2_with fail
                with_reducible refine D2.out.mono ?_
                rintro e2 w2 ⟨rfl, rfl⟩
                go_wp2_with fail
                go_roundg (l.length - (k + 1))
                case rel => exact ⟨k + 1, by go_num, Nat.le_refl _, hlt, BR.out, NX⟩
                case measure => have := HM.out; omega
            · obtain rfl : k = l.length := by omega
              have P3 := Lib.hid OK.out.all
              have BR3 := BR
              have AM := Lib.hid (show ∀ y ∈ l, mayV y.lim = true from fun y hy => by
                obtain ⟨j, hj, rfl⟩ := List.mem_iff_getElem.1 hy
                exact (c1W_zero (OK1.out.mem (List.getElem?_eq_getElem hj))).2.1)
              clear hlt hk HM OK OK1
              go_wp2_with fail
              clear BR BR2 DP
              go_loopg [6] l.length (fun m iv wr => ∃ k : Nat, iv = .int .i64 k ∧ l.length - k ≤ m ∧ k ≤ l.length ∧ Below w.heap.size w wr ∧ Hid (OKto (c4W l) l k))
              case atStart => exact ⟨0, rfl, Nat.le_refl _, Nat.zero_le _, BR3.out, Lib.hid (OKto.zero _ _)⟩
              case round =>
                obtain ⟨k, rfl, hm, hk, hb, OK⟩ := hrel
                have HM := Lib.hid hm
                have BR := Lib.hid hb
                clear hm hb
                by_cases hlt : k < l.length
                · obtain ⟨u, hu⟩ : ∃ u, l[k]? = some u := ⟨_, List.getElem?_eq_getElem hlt⟩
                  have HU := Lib.hid hu
                  obtain ⟨g, o, rfl, hat⟩ := HAT.out k u hu
                  have KU := Lib.hid (hat.below BR.out)
                  have x0 : (0 : Int) ≤ (k : Int) := by omega
                  have x1 : (k : Int) < (l.length : Int) := by omega
                  clear hu hat
                  go_wp2_with fail
                  have T0 := Lib.hid (CBlk.new wr z3)
                  have KA := Lib.hid (KU.out.below (below_al (Below.refl wr.heap.size wr) (.cells #[.int .i64 0, .int .i64 0, .int .i64 0] 37)))
                  have BA := Lib.hid (below_al (Below.refl wr.heap.size wr) (.cells #[.int .i64 0, .int .i64 0, .int .i64 0] 37))
                  go_loopg [8] l.length (fun m jv ws => ∃ j : Nat, jv = .int .i64 j ∧ l.length - j ≤ m ∧ j ≤ l.length ∧ Below wr.heap.size wr ws ∧ CBlk ws wr.heap.size (kidsTo l u.name j))
                  case atStart => exact ⟨0, rfl, Nat.le_refl _, Nat.zero_le _, BA.out, T0.out⟩
                  case round =>
                    obtain ⟨j, rfl, hm2, hj, hb2, hc⟩ := hrel
                    have HM2 := Lib.hid hm2
                    have BS := Lib.hid hb2
                    have CS := Lib.hid hc
                    clear hm2 hb2 hc
                    obtain ⟨u0, u1, u2, u3, u4⟩ := KU.out.below BS.out
                    obtain ⟨t0, t1, t2, tl⟩ := CS.out.cells
                    by_cases hjl : j < l.length
                    · obtain ⟨y, hy⟩ : ∃ y, l[j]? = some y := ⟨_, List.getElem?_eq_getElem hjl⟩
                      obtain ⟨g', o', e', hat⟩ := HAT.out j y hy
                      simp only [Option.some.injEq, Addr.mk.injEq, and_true] at e'
                      obtain ⟨rfl, rfl⟩ := e'
                      obtain ⟨k0, k1, k2, k3, k4⟩ := (hat.below BR.out).below BS.out
                      have z0 : (0 : Int) ≤ (j : Int) := by omega
                      have z1 : (j : Int) < (l.length : Int) := by omega
                      have ST := Lib.hid (kidsTo_step (s := u.name) hy)
                      have UP := Lib.hid (kidsTo_up u.name AM.out j (by omega))
                      have YB := Lib.hid (may_bounds (AM.out y (List.mem_of_getElem? hy)))
                      clear hy hat
                      by_cases hp : y.parent = u.name
                      · have e := tstr_is hp
                        have EN := Lib.hid (show kidsTo l u.name (j + 1) = addV (kidsTo l u.name j) y.lim by rw [ST.out, if_pos hp])
                        have AD0 := Lib.hid (fun W => radd2_any W (kidsTo l u.name j) y.lim (by
                          have := UP.out; have := YB.out
                          unfold V3.I addV; simp only; omega))
                        obtain ⟨s1, hs1⟩ : ∃ s1, s1 = addV (kidsTo l u.name j) y.lim := ⟨_, rfl⟩
                        have AD : Hid (∀ W, Calls Try.prog 25 #[.agg #[.int .i64 (kidsTo l u.name j).c, .int .i64 (kidsTo l u.name j).m, .int .i64 (kidsTo l u.name j).p], .agg #[.int .i64 y.lim.c, .int .i64 y.lim.m, .int .i64 y.lim.p]] W (Made (.agg #[.int .i64 s1.c, .int .i64 s1.m, .int .i64 s1.p]) W)) := by rw [hs1]; exact AD0.out
                        have EN2 := Lib.hid (EN.out.trans hs1.symm)
                        clear AD0 hs1 EN
                        generalize kidsTo l u.name j = s0 at *
                        clear hp UP YB ST
                        go_wp2_with fail
                        refine wp_region_mono (by kernel_rfl) (by kernel_rfl) ?_
                        simp only [List.map_cons, List.map_nil]
                        repeat (first
                          | (apply wpM_is
                             · (intro us W hW hg K hK
                                clear hg
                                have d0 := hold hW u0
                                have d1 := hold hW u1
                                have d2 := hold hW u2
                                have d3 := hold hW u3
                                have d4 := hold hW u4
                                have d5 := hold hW k0
                                have d6 := hold hW k1
                                have d7 := hold hW k2
                                have d8 := hold hW k3
                                have d9 := hold hW k4
                                simp only [fillA]
                                go_simp
                                first
                                | exact hK _ (Below.refl _ _))
                             simp only [setD, List.set_cons_zero, List.set_cons_succ]))
                        intro us W hW hg
                        simp only [fillA]
                        clear hg
                        have BS2 := Lib.hid (below_tr BS.out hW)
                        have CS2 := Lib.hid (CS.out.below hW)
                        replace k2 := hold hW k2
                        replace k3 := hold hW k3
                        replace k4 := hold hW k4
                        obtain ⟨t0, t1, t2, tl⟩ := CS2.out.cells
                        clear hW u0 u1 u2 u3 u4 k0 k1
                        go_wp2_with fail
                        refine wp_region_mono_tail 7 (by kernel_rfl) (by kernel_rfl) (Nat.le_of_ble_eq_true (by kernel_rfl)) (by kernel_rfl) ?_
                        simp only [List.map_cons, List.map_nil]
                        simp only [List.take_succ_cons, List.take_zero, List.drop_succ_cons, List.drop_zero]
                        repeat (first
                          | (apply wpM_is
                             · (intro us W hW hg K hK
                                clear hg
                                have d7 := hold hW k2
                                have d8 := hold hW k3
                                have d9 := hold hW k4
                                have d10 := hold hW t0
                                have d11 := hold hW t1
                                have d12 := hold hW t2
                                simp only [fillA]
                                go_simp
                                first
                                | exact hK _ (Below.refl _ _)
                                | ((with_reducible refine (AD.out _).mono ?_); rintro e w' ⟨rfl, hb⟩; exact hK _ hb))
                             simp only [setD, List.set_cons_zero, List.set_cons_succ]))
                        intro us W hW hg
                        simp only [fillA]
                        clear hg
                        have BW := Lib.hid (below_tr BS2.out hW)
                        have TW := Lib.hid (CS2.out.below hW)
                        obtain ⟨e0, e1, e2, el⟩ := TW.out.cells
                        have f0 := TW.out.free 0
                        have f1 := TW.out.free 1
                        have f2 := TW.out.free 2
                        clear hW t0 t1 t2 tl k2 k3 k4
                        go_wp2_with fail
                        go_roundg (l.length - (j + 1))
                        case rel => exact ⟨j + 1, by go_num, Nat.le_refl _, hjl, below_set3 BW.out (Nat.le_refl _) _ _ _, by rw [EN2.out]; exact TW.out.set s1⟩
                        case measure => have := HM2.out; omega
                      · have e := tstr_ne hp
                        have EN := Lib.hid (show kidsTo l u.name (j + 1) = kidsTo l u.name j by rw [ST.out, if_neg hp])
                        clear hp UP YB ST
                        go_wp2_with fail
                        refine wp_region_mono (by kernel_rfl) (by kernel_rfl) ?_
                        simp only [List.map_cons, List.map_nil]
                        repeat (first
                          | (apply wpM_is
                             · (intro us W hW hg K hK
                                clear hg
                                have d0 := hold hW u0
                                have d1 := hold hW u1
                                have d2 := hold hW u2
                                have d3 := hold hW u3
                                have d4 := hold hW u4
                                have d5 := hold hW k0
                                have d6 := hold hW k1
                                have d7 := hold hW k2
                                have d8 := hold hW k3
                                have d9 := hold hW k4
                                simp only [fillA]
                                go_simp
                                first
                                | exact hK _ (Below.refl _ _))
                             simp only [setD, List.set_cons_zero, List.set_cons_succ]))
                        intro us W hW hg
                        simp only [fillA]
                        clear hg
                        go_wp2_with fail
                        go_roundg (l.length - (j + 1))
                        case rel => exact ⟨j + 1, by go_num, Nat.le_refl _, hjl, below_tr BS.out hW, by rw [EN.out]; exact CS.out.below hW⟩
                        case measure => have := HM2.out; omega
                    · obtain rfl : j = l.length := by omega
                      have KE := Lib.hid (kidsTo_all l u.name)
                      have LE := Lib.hid (fun W => rle_any W (kidsTo l u.name l.length) u.lim)
                      cases hle : leV (kidsTo l u.name l.length) u.lim with
                      | false =>
                        have R := Lib.hid (show checkL l = 11 by
                          have := OK.out.err HU.out (e := 11) (by unfold c4W; rw [← KE.out, if_pos hle]) (by decide)
                          rw [CK.out, if_neg (by rw [P1.out]; decide), if_neg (by rw [P2.out]; decide), if_neg (by rw [P3.out]; decide), this])
                        simp only [hle] at LE
                        clear hle
                        generalize kidsTo l u.name l.length = s0 at *
                        go_wp2_with fail
                        refine wp_region_mono (by kernel_rfl) (by kernel_rfl) ?_
                        simp only [List.map_cons, List.map_nil]
                        repeat (first
                          | (apply wpM_is
                             · (intro us W hW hg K hK
                                clear hg
                                have d0 := hold hW u0
                                have d1 := hold hW u1
                                have d2 := hold hW u2
                                have d3 := hold hW u3
                                have d4 := hold hW u4
                                have d10 := hold hW t0
                                have d11 := hold hW t1
                                have d12 := hold hW t2
                                simp only [fillA]
                                go_simp
                                first
                                | exact hK _ (Below.refl _ _)
                                | ((with_reducible refine (LE.out _).mono ?_); rintro e w' ⟨rfl, hb⟩; exact hK _ hb))
                             simp only [setD, List.set_cons_zero, List.set_cons_succ]))
                        intro us W hW hg
                        simp only [fillA]
                        clear hg
                        go_wp2_with fail
                        go_ret
                        exact ⟨by rw [R.out]; rfl, below_tr (below_tr BR.out BS.out) hW⟩
                      | true =>
                        have NX := Lib.hid (OK.out.next HU.out (by unfold c4W; rw [← KE.out, if_neg (by rw [hle]; decide)]))
                        simp only [hle] at LE
                        clear hle
                        generalize kidsTo l u.name l.length = s0 at *
                        go_wp2_with fail
                        refine wp_region_mono (by kernel_rfl) (by kernel_rfl) ?_
                        simp only [List.map_cons, List.map_nil]
                        repeat (first
                          | (apply wpM_is
                             · (intro us W hW hg K hK
                                clear hg
                                have d0 := hold hW u0
                                have d1 := hold hW u1
                                have d2 := hold hW u2
                                have d3 := hold hW u3
                                have d4 := hold hW u4
                                have d10 := hold hW t0
                                have d11 := hold hW t1
                                have d12 := hold hW t2
                                simp only [fillA]
                                go_simp
                                first
                                | exact hK _ (Below.refl _ _)
                                | ((with_reducible refine (LE.out _).mono ?_); rintro e w' ⟨rfl, hb⟩; exact hK _ hb))
                             simp only [setD, List.set_cons_zero, List.set_cons_succ]))
                        intro us W hW hg
                        simp only [fillA]
                        clear hg
                        go_wp2_with fail
                        go_roundg (l.length - (k + 1))
                        case rel => exact ⟨k + 1, by go_num, Nat.le_refl _, hlt, below_tr (below_tr BR.out BS.out) hW, NX⟩
                        case measure => have := HM.out; omega
                · obtain rfl : k = l.length := by omega
                  have R := Lib.hid (show checkL l = 0 by
                    rw [CK.out, if_neg (by rw [P1.out]; decide), if_neg (by rw [P2.out]; decide), if_neg (by rw [P3.out]; decide)]
                    exact OK.out.all)
                  go_wp2_with fail
                  go_ret
                  exact ⟨by rw [R.out]; rfl, BR.out⟩
end
end Go.Proofs.Ytmiadhcmhnjmfaa
