/- The document's Call: range, concat, has, text. -/
import Derived.Test.YtoaachefdbepiaaDoorRfK
import Derived.Test.YtoaachefdbepiaaDoorFunI
import Derived.Test.YtoaachefdbepiaaDoorValF
namespace Go.Proofs.YtoaachefdbepiaaDoor
open Go.RowKit
set_option linter.unusedVariables false
set_option linter.unusedSimpArgs false

/-- What the document tells of these values side by side. -/
def Listd (D : Nat) (l : List VL) (w : World) (e : Ending) (w' : World) : Prop :=
  (l.length ≤ 64 → DocR D (vlist l, 0) w e w') ∧ (64 < l.length → Doc (vz, 4) w e w')
section
variable (w : World)
set_option maxRecDepth 20000
set_option maxHeartbeats 4000000 in
theorem rcall_range_ok (D : Nat) (v : VL) (lv : Value) (hr : RowRd w D [v] lv) (hkl : ∀ x ∈ [v], x.kids.length ≤ 1000) (hnk : ∀ x ∈ [v], x.kind ≠ 4 → x.kids = []) (hf : fitAllB [1] [v] = true) (n : Nat) (hi : v.num = (n : Int)) (h64 : n ≤ 64) : Calls Tryd.prog 8 #[.string ⟨#[114, 97, 110, 103, 101]⟩, lv] w (DocR 1 (vlist ((upTo n).map vnum), 0) w) := by
  have HI := Lib.hid hi
  clear hi
  have RR := Lib.hid (fun W (hW : Below w.heap.size w W) => by have := rright_range W D [v] lv (hr.below hW) (by simp) hkl hnk; rw [hf] at this; exact this)
  have HR := Lib.hid hr
  obtain ⟨lao, lcap, rfl⟩ := hr.shape
  clear hr hnk hf
  have B0 := Lib.hid (below_al (Below.refl w.heap.size w) (.cells #[.int .i64 0, .int .i64 0, .string ⟨#[]⟩, .slice none 0 0, .int .i64 0] 32))
  have G0 := Lib.hid (show GotB (w.alloc (.cells #[.int .i64 0, .int .i64 0, .string ⟨#[]⟩, .slice none 0 0, .int .i64 0] 32)) w.heap.size 0 0 ⟨#[]⟩ 0 from heap_alloc_new w _)
  go_enter Tryd.func8, Tryd.ntmps8
  go_wp2_with fail
  generalize w.alloc (.cells #[.int .i64 0, .int .i64 0, .string ⟨#[]⟩, .slice none 0 0, .int .i64 0] 32) = wa at *
  refine (rwants_range _).mono ?_
  rintro e w1 ⟨rfl, rfl⟩
  go_wp2_with fail
  refine (RR.out _ B0.out).mono ?_
  rintro e w1 ⟨rfl, hb1⟩
  have BB := Lib.hid (below_tr B0.out hb1)
  have GB := Lib.hid (G0.out.below hb1)
  clear hb1 RR G0 B0
  obtain ⟨ao2, cap2, e2, hat⟩ := (HR.out.below BB.out).at
  simp only [Value.slice.injEq, true_and] at e2
  obtain ⟨rfl, rfl⟩ := e2
  obtain ⟨g2, o2, lu, rfl, -, c0, c1, c2, c3, hu⟩ := hat 0 v rfl
  obtain ⟨uo, uc, rfl⟩ := hu.shape
  simp only [Nat.zero_mul, Nat.add_zero] at c0 c1 c2 c3
  have RU := Lib.hid hu
  have cl := World.block_lt_of_cell? _ _ c0
  simp only at cl
  clear hat hu
  rw [HI.out] at c1
  have CC := Lib.hid (rcount_ok w1 n h64)
  go_wp2_with fail
  refine CC.out.mono ?_
  rintro e w2 ⟨lo, lc, rfl, hri, hb⟩
  have R2 := Lib.hid hri
  obtain ⟨⟨r0, r1, r2, r3, r4⟩, ⟨f0, f1, f2, f3, f4⟩, rl⟩ := (GB.out.below hb).full
  have B1 := Lib.hid (below_tr BB.out hb)
  have HS := Lib.hid (show w.heap.size ≤ w1.heap.size from BB.out.size)
  clear hb hri
  generalize (upTo n).map vnum = ks at *
  go_wp2_with fail
  exact bodyPost_ret (v := .agg #[.int .i64 4, .int .i64 0, .string ⟨#[]⟩, .slice lo ks.length lc, .int .i64 0]) (by simp [results, Tryd.results8, go_sem, r0, r1, r2, r3, r4]) rfl
    ⟨.slice lo ks.length lc, rfl, (set5_in R2.out (fun h => by have := HS.out; omega) _ _ _ _ _).rd, below_set5 B1.out (Nat.le_refl _) _ _ _ _ _⟩
set_option maxHeartbeats 4000000 in
theorem rcall_concat (D : Nat) (l : List VL) (lv : Value) (hr : RowRd w D l lv) (hkl : ∀ x ∈ l, x.kids.length ≤ 1000) (hnk : ∀ x ∈ l, x.kind ≠ 4 → x.kids = []) (hf : fitAllB [3] l = true) (h0 : 0 < l.length) (hn : l.length ≤ 1000) (hn2 : l.length ≤ 100) (hd : (catV l).length ≤ 64 → deepI 64 (vlist (catV l)) ≤ 64) : Calls Tryd.prog 8 #[.string ⟨#[99, 111, 110, 99, 97, 116]⟩, lv] w (Listd (D - 1 - 1 + 1 - 1 + 1) (catV l) w) := by
  have HL := Lib.hid hkl
  have HN := Lib.hid hn2
  have HD := Lib.hid hd
  clear hd hn2
  have RR := Lib.hid (fun W (hW : Below w.heap.size w W) => by have := rright_concat W D l lv (hr.below hW) hn hkl hnk; rw [hf] at this; exact this)
  have HR := Lib.hid hr
  obtain ⟨lao, lcap, rfl⟩ := hr.shape
  clear hr hnk hf
  have h1 : ¬ (l.length : Int) < 1 := by omega
  have h2 : ¬ (1073741824 : Int) < (l.length : Int) := by omega
  have B0 := Lib.hid (below_al (Below.refl w.heap.size w) (.cells #[.int .i64 0, .int .i64 0, .string ⟨#[]⟩, .slice none 0 0, .int .i64 0] 32))
  have G0 := Lib.hid (show GotB (w.alloc (.cells #[.int .i64 0, .int .i64 0, .string ⟨#[]⟩, .slice none 0 0, .int .i64 0] 32)) w.heap.size 0 0 ⟨#[]⟩ 0 from heap_alloc_new w _)
  go_enter Tryd.func8, Tryd.ntmps8
  go_wp2_with fail
  generalize w.alloc (.cells #[.int .i64 0, .int .i64 0, .string ⟨#[]⟩, .slice none 0 0, .int .i64 0] 32) = wa at *
  refine (rwants_concat _).mono ?_
  rintro e w1 ⟨rfl, rfl⟩
  go_wp2_with fail
  refine (RR.out _ B0.out).mono ?_
  rintro e w1 ⟨rfl, hb1⟩
  have BB := Lib.hid (below_tr B0.out hb1)
  have GB := Lib.hid (G0.out.below hb1)
  clear hb1 RR G0 B0
  go_wp2_with fail
  have GZ := Lib.hid (show w.heap.size < w1.heap.size from GB.out.full.2.2)
  obtain ⟨i0, hi0, hz0, hz1, hz2⟩ := info_parts info_val
  clear h0 hn hkl
  go_loopg [8, 9] l.length (fun m rv iv wr => ∃ (i : Nat) (ps : List (VL × Value)), iv = .int .i64 i ∧ l.length - i ≤ m ∧ i ≤ l.length ∧ ps.map (·.1) = catV (l.take i) ∧ ps.length ≤ 1000 * i ∧ Below w1.heap.size w1 wr ∧ wr.ownsRow w1.heap.size 26 4 rv ps.length (rowCells ps) ∧ KidsRd w (D - 1 - 1) ps)
  case atStart => exact ⟨0, [], rfl, Nat.le_refl _, Nat.zero_le _, rfl, Nat.zero_le _, Below.refl _ _, own_none _ _ _ _, KidsRd.nil _ _⟩
  case round =>
    obtain ⟨i, ps, rfl, hm, hi, hps, hpl, hb, ho, hkr⟩ := hrel
    obtain ⟨rao, rcap, rfl⟩ := own_len ho
    have HM := Lib.hid hm
    have BR := Lib.hid hb
    have BW := Lib.hid (below_tr BB.out hb)
    have O := Lib.hid ho
    have PS := Lib.hid hps
    have KR := Lib.hid hkr
    have PL := Lib.hid hpl
    clear hm hb ho hps hkr hpl
    by_cases hil : i < l.length
    · obtain ⟨u, hu⟩ : ∃ u, l[i]? = some u := ⟨_, List.getElem?_eq_getElem hil⟩
      obtain ⟨ao2, cap2, e2, hat⟩ := HR.out.at
      simp only [Value.slice.injEq, true_and] at e2
      obtain ⟨rfl, rfl⟩ := e2
      obtain ⟨g2, o2, lu, rfl, -, q0, q1, q2, q3, hr⟩ := hat i u hu
      obtain ⟨uao, ucap, rfl⟩ := hr.shape
      have k3 := hold BW.out q3
      clear q0 q1 q2 q3
      have UK := Lib.hid (HL.out u (List.mem_of_getElem? hu))
      have TK := Lib.hid (show catV (l.take (i + 1)) = catV (l.take i) ++ u.kids by unfold catV; rw [List.take_add_one, hu]; simp)
      have OB := Lib.hid (fun k hk => World.ownsRow.lt O.out k hk)
      obtain ⟨qs, hq1, hq2, hq3, hq4, hq5⟩ := row_src hr
      have Q1 := Lib.hid hq1
      have Q2 := Lib.hid hq2
      have Q3 := Lib.hid hq3
      have Q4 := Lib.hid hq4
      have Q5 := Lib.hid (fun ad had j u hj => hold BW.out (hq5 ad had j u hj))
      clear hat hu hr hq1 hq2 hq3 hq4 hq5
      go_wp2_with (at_builtin; refine wpList_append_any _ rfl _ _ 22 rfl w1.heap.size 26 i0 _ 4 56 Tryd.underlying22 hi0 hz0 hz1 hz2 rfl (by decide) (.slice rao ps.length rcap) ps.length (rowCells ps) rfl O.out uao u.kids.length ucap (rowCells qs) rfl ?a1 Q4.out Q5.out ?b1 ?c1 ?d1 ?e1 ?_)
      case a1 => rw [rowCells_len, Q2.out]
      case b1 => exact Q3.out.one
      case c1 => have := PL.out; have := UK.out; have := HN.out; unfold maxLen; omega
      case d1 => have := PL.out; have := UK.out; have := HN.out; omega
      case e1 => exact BR.out.size
      intro v' w6 hown hgrow
      have BZ := Lib.hid (below_grown' BR.out hgrow (fun k hk => (OB.out k hk).1))
      have OZ := Lib.hid (show w6.ownsRow w1.heap.size 26 4 v' (ps ++ qs).length (rowCells (ps ++ qs)) by rw [rowCells_app, List.length_append, Q2.out]; exact hown)
      have KZ := Lib.hid (KR.out.app Q3.out)
      have PZ := Lib.hid (show (ps ++ qs).map (·.1) = catV (l.take (i + 1)) by rw [List.map_append, PS.out, Q1.out, TK.out])
      have LZ := Lib.hid (show (ps ++ qs).length ≤ 1000 * (i + 1) by rw [List.length_append, Q2.out]; have := PL.out; have := UK.out; omega)
      obtain ⟨vao, vcap, rfl⟩ := own_len OZ.out
      clear hown hgrow k3 O PS KR PL TK OB Q1 Q2 Q3 Q4 Q5
      generalize ps ++ qs = ps2 at *
      go_wp2_with fail
      go_roundg (l.length - (i + 1))
      case rel => exact ⟨i + 1, ps2, rfl, Nat.le_refl _, hil, PZ.out, LZ.out, BZ.out, OZ.out, KZ.out⟩
      case measure => have := HM.out; omega
    · have e : l.take i = l := List.take_of_length_le (by omega)
      have RI := Lib.hid (rowIn_of_own (P := fun g => g < w.heap.size ∨ w1.heap.size ≤ g) (Q := fun g => g < w.heap.size) (D := D - 1 - 1) O.out (by have := PL.out; have := HN.out; unfold maxLen; omega) (fun p hp => RowIn.keep (Q := fun g => g < w.heap.size) (fun _ h => h) (fun b o z h hz => (BW.out.cell (p := ⟨b, o, none⟩) h).trans hz) (rowIn_of_rd (KR.out p hp))) (fun g h => .inl h) (fun g h => .inr h))
      rw [PS.out, e] at RI
      have RL := Lib.hid (show (catV l).length = ps.length by rw [← e, ← PS.out, List.length_map])
      have PL2 := Lib.hid (show ps.length ≤ 100000 by have := PL.out; have := HN.out; omega)
      obtain ⟨⟨z0, z1, z2, z3, z4⟩, ⟨y0, y1, y2, y3, y4⟩, yl⟩ := (GB.out.below BR.out).full
      clear e z0 z1 z2 z3 z4 y0 y1 y2 y3 y4 yl O PS KR PL
      generalize hc : catV l = cl at *
      by_cases h64 : cl.length ≤ 64
      · have LL := Lib.hid (rlist_in wr _ _ cl _ (rowIn_lt RI.out) (fun b h => h.2) h64 (HD.out h64))
        have GW := Lib.hid (GB.out.below BR.out)
        have N64 := Lib.hid h64
        clear h64
        go_wp2_with fail
        refine LL.out.mono ?_
        rintro e w2 ⟨lo, lc, rfl, hri, hb⟩
        have R2 := Lib.hid hri
        obtain ⟨⟨r0, r1, r2, r3, r4⟩, ⟨f0, f1, f2, f3, f4⟩, rl⟩ := (GW.out.below hb).full
        have B1 := Lib.hid (below_tr BW.out hb)
        have HS := Lib.hid (show w.heap.size ≤ wr.heap.size from BW.out.size)
        clear hb hri
        go_wp2_with fail
        exact bodyPost_ret (v := .agg #[.int .i64 4, .int .i64 0, .string ⟨#[]⟩, .slice lo cl.length lc, .int .i64 0]) (by simp [results, Tryd.results8, go_sem, r0, r1, r2, r3, r4]) rfl
          ⟨fun _ => ⟨_, rfl, (set5_in R2.out (fun h => by
            have h1 := HS.out
            have h2 := GZ.out
            rcases h with ⟨h | h, -⟩ | h <;> omega) _ _ _ _ _).rd, below_set5 B1.out (Nat.le_refl _) _ _ _ _ _⟩, fun h => absurd h (by have := N64.out; omega)⟩
      · have LL := Lib.hid (rlist_bad wr _ cl _ RI.out.rd (by omega) (by rw [RL.out]; exact PL2.out))
        have GW := Lib.hid (GB.out.below BR.out)
        have N64 := Lib.hid h64
        clear h64
        go_wp2_with fail
        refine LL.out.mono ?_
        rintro e w2 ⟨rfl, hb⟩
        obtain ⟨⟨r0, r1, r2, r3, r4⟩, ⟨f0, f1, f2, f3, f4⟩, rl⟩ := (GW.out.below hb).full
        have B1 := Lib.hid (below_tr BW.out hb)
        clear hb
        go_wp2_with fail
        exact bodyPost_ret (v := .agg #[.int .i64 0, .int .i64 0, .string ⟨#[]⟩, .slice none 0 0, .int .i64 4]) (by simp [results, Tryd.results8, go_sem, r0, r1, r2, r3, r4, vz, VL.kind, VL.num, VL.text]) rfl
          ⟨fun h => absurd h N64.out, fun _ => ⟨rfl, below_set5 B1.out (Nat.le_refl _) _ _ _ _ _⟩⟩
set_option maxHeartbeats 4000000 in
theorem rcall_has (D : Nat) (a b : VL) (lv : Value) (hr : RowRd w D [a, b] lv) (hkl : ∀ x ∈ [a, b], x.kids.length ≤ 1000) (hnk : ∀ x ∈ [a, b], x.kind ≠ 4 → x.kids = []) (hf : fitAllB [3, 0] [a, b] = true) : Calls Tryd.prog 8 #[.string ⟨#[104, 97, 115]⟩, lv] w (Doc (vbool (hasB D a.kids b), 0) w) := by
  have hka := hkl a (by simp)
  have RR := Lib.hid (fun W (hW : Below w.heap.size w W) => by have := rright_has W D [a, b] lv (hr.below hW) (by simp) (by simp) hkl hnk; rw [hf] at this; exact this)
  have HR := Lib.hid hr
  obtain ⟨lao, lcap, rfl⟩ := hr.shape
  clear hr hnk hf
  have B0 := Lib.hid (below_al (Below.refl w.heap.size w) (.cells #[.int .i64 0, .int .i64 0, .string ⟨#[]⟩, .slice none 0 0, .int .i64 0] 32))
  have G0 := Lib.hid (show GotB (w.alloc (.cells #[.int .i64 0, .int .i64 0, .string ⟨#[]⟩, .slice none 0 0, .int .i64 0] 32)) w.heap.size 0 0 ⟨#[]⟩ 0 from heap_alloc_new w _)
  go_enter Tryd.func8, Tryd.ntmps8
  go_wp2_with fail
  generalize w.alloc (.cells #[.int .i64 0, .int .i64 0, .string ⟨#[]⟩, .slice none 0 0, .int .i64 0] 32) = wa at *
  refine (rwants_has _).mono ?_
  rintro e w1 ⟨rfl, rfl⟩
  go_wp2_with fail
  refine (RR.out _ B0.out).mono ?_
  rintro e w1 ⟨rfl, hb1⟩
  have BB := Lib.hid (below_tr B0.out hb1)
  have GB := Lib.hid (G0.out.below hb1)
  clear hb1 RR G0 B0
  obtain ⟨ao2, cap2, e2, hat⟩ := (HR.out.below BB.out).at
  simp only [Value.slice.injEq, true_and] at e2
  obtain ⟨rfl, rfl⟩ := e2
  obtain ⟨g2, o2, la, rfl, -, c0, c1, c2, c3, ha⟩ := hat 0 a rfl
  obtain ⟨g3, o3, lb, e3, -, d0, d1, d2, d3, hbb⟩ := hat 1 b rfl
  simp only [Option.some.injEq, Addr.mk.injEq, and_true] at e3
  obtain ⟨rfl, rfl⟩ := e3
  obtain ⟨ua, uac, rfl⟩ := ha.shape
  obtain ⟨ub, ubc, rfl⟩ := hbb.shape
  simp only [Nat.zero_mul, Nat.add_zero, Nat.one_mul] at c0 c1 c2 c3 d0 d1 d2 d3
  have RA := Lib.hid ha
  have RB := Lib.hid hbb
  have cl := World.block_lt_of_cell? _ _ c0
  simp only at cl
  clear hat ha hbb
  go_wp2_with fail
  have D0 := Lib.hid d0
  have D1 := Lib.hid d1
  have D2 := Lib.hid d2
  have D3 := Lib.hid d3
  have C3 := Lib.hid c3
  have RB2 := Lib.hid (RB.out.up (E := D) (by omega))
  clear c0 c1 c2 c3 d0 d1 d2 d3
  go_loopg [10] a.kids.length (fun m iv wr => ∃ i : Nat, iv = .int .i64 i ∧ a.kids.length - i ≤ m ∧ i ≤ a.kids.length ∧ Below w1.heap.size w1 wr ∧ Hid (hasB D (a.kids.take i) b = false))
  case atStart => exact ⟨0, rfl, Nat.le_refl _, Nat.zero_le _, Below.refl _ _, Lib.hid rfl⟩
  case round =>
    obtain ⟨i, rfl, hm, hi, hb, HF⟩ := hrel
    have HM := Lib.hid hm
    have BR := Lib.hid hb
    have BW := Lib.hid (below_tr BB.out hb)
    have GW := Lib.hid (GB.out.below hb)
    clear hm hb
    have c3 := hold BR.out C3.out
    by_cases hil : i < a.kids.length
    · obtain ⟨u, hu⟩ : ∃ u, a.kids[i]? = some u := ⟨_, List.getElem?_eq_getElem hil⟩
      obtain ⟨ao2, cap2, e2, hat⟩ := (RA.out.below BR.out).at
      simp only [Value.slice.injEq, true_and] at e2
      obtain ⟨rfl, rfl⟩ := e2
      obtain ⟨gk, ok, lu, rfl, -, k0, k1, k2, k3, hr⟩ := hat i u hu
      have RU := Lib.hid (hr.up (E := D) (by omega))
      obtain ⟨luo, luc, rfl⟩ := hr.shape
      have TK := Lib.hid (show hasB D (a.kids.take (i + 1)) b = (hasB D (a.kids.take i) b || sameB D u b) by
        unfold hasB; rw [List.take_add_one, hu, List.any_append]; simp)
      have TA := Lib.hid (show sameB D u b = true → hasB D a.kids b = true from fun h => by
        unfold hasB; rw [List.any_eq_true]; exact ⟨u, List.mem_of_getElem? hu, h⟩)
      have SS := Lib.hid (fun W (hW : Below wr.heap.size wr W) => (rsame D).call u b (.slice luo u.kids.length luc) (.slice ub b.kids.length ubc) W (RU.out.below hW) (RB2.out.below (below_tr BR.out hW)))
      have d0 := hold BR.out D0.out
      have d1 := hold BR.out D1.out
      have d2 := hold BR.out D2.out
      have d3 := hold BR.out D3.out
      clear hat hu hr
      cases hs : sameB D u b
      · rw [hs] at SS
        have FF := Lib.hid (show hasB D (a.kids.take (i + 1)) b = false by rw [TK.out, HF.out, hs]; rfl)
        clear hs
        go_wp2_with fail
        go_region_with (first | (go_at_call 9; (with_reducible refine (SS.out _ ?_).mono ?_); (· exact below_drew (Below.refl _ _)); rintro e w3 ⟨rfl, hb3⟩; have B3 := Lib.hid (below_tr (below_drew (Below.refl wr.heap.size wr)) hb3); clear hb3))
        all_goals
          go_wp2_with fail
          go_roundg (a.kids.length - (i + 1))
          case rel => exact ⟨i + 1, rfl, Nat.le_refl _, hil, below_tr BR.out B3.out, FF⟩
          case measure => have := HM.out; omega
      · rw [hs] at SS
        have TT := Lib.hid (TA.out hs)
        clear hs TA
        go_wp2_with fail
        go_region_with (first | (go_at_call 9; (with_reducible refine (SS.out _ ?_).mono ?_); (· exact below_drew (Below.refl _ _)); rintro e w3 ⟨rfl, hb3⟩; have B3 := Lib.hid (below_tr (below_drew (Below.refl wr.heap.size wr)) hb3); clear hb3))
        all_goals
          go_wp2_with fail
          refine (rtruth _ _).mono ?_
          rintro e w4 ⟨rfl, hb⟩
          obtain ⟨⟨r0, r1, r2, r3, r4⟩, ⟨f0, f1, f2, f3, f4⟩, rl⟩ := ((GW.out.below B3.out).below hb).full
          have B1 := Lib.hid (below_tr (below_tr BW.out B3.out) hb)
          clear hb
          go_wp2_with fail
          exact bodyPost_ret (v := .agg #[.int .i64 3, .int .i64 1, .string ⟨#[]⟩, .slice none 0 0, .int .i64 0]) (by simp [results, Tryd.results8, go_sem, r0, r1, r2, r3, r4, vbool, boolN, VL.kind, VL.num, VL.text]) rfl (by rw [TT.out]; exact ⟨rfl, below_set5 B1.out (Nat.le_refl _) _ _ _ _ _⟩)
    · have e : a.kids.take i = a.kids := List.take_of_length_le (by omega)
      rw [e] at HF
      clear e
      go_wp2_with fail
      refine (rtruth _ _).mono ?_
      rintro e w4 ⟨rfl, hb⟩
      obtain ⟨⟨r0, r1, r2, r3, r4⟩, ⟨f0, f1, f2, f3, f4⟩, rl⟩ := (GW.out.below hb).full
      have B1 := Lib.hid (below_tr BW.out hb)
      clear hb
      go_wp2_with fail
      exact bodyPost_ret (v := .agg #[.int .i64 3, .int .i64 0, .string ⟨#[]⟩, .slice none 0 0, .int .i64 0]) (by simp [results, Tryd.results8, go_sem, r0, r1, r2, r3, r4, vbool, boolN, VL.kind, VL.num, VL.text]) rfl (by rw [HF.out]; exact ⟨rfl, below_set5 B1.out (Nat.le_refl _) _ _ _ _ _⟩)
set_option maxHeartbeats 4000000 in
theorem rcall_text (D : Nat) (v : VL) (lv : Value) (hr : RowRd w D [v] lv) (hkl : ∀ x ∈ [v], x.kids.length ≤ 1000) (hnk : ∀ x ∈ [v], x.kind ≠ 4 → x.kids = []) (hf : fitAllB [0] [v] = true) (hi : I64 v.num) (hk : v.kind = 1 ∨ v.kind = 2 ∨ v.kind = 3 ∨ v.kind = 4) (hs : (textT v).1.size ≤ 400) : Calls Tryd.prog 8 #[.string ⟨#[116, 101, 120, 116]⟩, lv] w (Doc (textR (textT v).1 (textT v).2) w) := by
  have TT := Lib.hid (fun W lao ln lcap => rtext W v lao ln lcap hi hk)
  have HS := Lib.hid hs
  clear hi hk hs
  have RR := Lib.hid (fun W (hW : Below w.heap.size w W) => by have := rright_text W D [v] lv (hr.below hW) (by simp) hkl hnk; rw [hf] at this; exact this)
  have HR := Lib.hid hr
  obtain ⟨lao, lcap, rfl⟩ := hr.shape
  clear hr hnk hf
  have B0 := Lib.hid (below_al (Below.refl w.heap.size w) (.cells #[.int .i64 0, .int .i64 0, .string ⟨#[]⟩, .slice none 0 0, .int .i64 0] 32))
  have G0 := Lib.hid (show GotB (w.alloc (.cells #[.int .i64 0, .int .i64 0, .string ⟨#[]⟩, .slice none 0 0, .int .i64 0] 32)) w.heap.size 0 0 ⟨#[]⟩ 0 from heap_alloc_new w _)
  go_enter Tryd.func8, Tryd.ntmps8
  go_wp2_with fail
  generalize w.alloc (.cells #[.int .i64 0, .int .i64 0, .string ⟨#[]⟩, .slice none 0 0, .int .i64 0] 32) = wa at *
  refine (rwants_text _).mono ?_
  rintro e w1 ⟨rfl, rfl⟩
  go_wp2_with fail
  refine (RR.out _ B0.out).mono ?_
  rintro e w1 ⟨rfl, hb1⟩
  have BB := Lib.hid (below_tr B0.out hb1)
  have GB := Lib.hid (G0.out.below hb1)
  clear hb1 RR G0 B0
  obtain ⟨ao2, cap2, e2, hat⟩ := (HR.out.below BB.out).at
  simp only [Value.slice.injEq, true_and] at e2
  obtain ⟨rfl, rfl⟩ := e2
  obtain ⟨g2, o2, lu, rfl, -, c0, c1, c2, c3, hu⟩ := hat 0 v rfl
  obtain ⟨uo, uc, rfl⟩ := hu.shape
  simp only [Nat.zero_mul, Nat.add_zero] at c0 c1 c2 c3
  have RU := Lib.hid hu
  have cl := World.block_lt_of_cell? _ _ c0
  simp only at cl
  clear hat hu
  go_wp2_with fail
  refine (TT.out w1 uo v.kids.length uc).mono ?_
  rintro e w2 ⟨rfl, hb⟩
  have B2 := Lib.hid (below_tr BB.out hb)
  have G2 := Lib.hid (GB.out.below hb)
  clear hb TT c0 c1 c2 c3
  by_cases hc : (textT v).2 = 0
  · have JR := Lib.hid (show joinR [(textT v).1] = textR (textT v).1 0 by
      unfold joinR textR
      rw [if_pos rfl, if_pos (by have := HS.out; simpa [jsum] using this)]
      simp [catB])
    generalize textT v = tv at *
    go_wp2_with fail
    have B3 := Lib.hid (below_al (below_al B2.out (.cells #[.string tv.1, .int .i64 0] 54)) (.cells #[.string tv.1] 9))
    have G3 := Lib.hid (G2.out.below (below_al (below_al (Below.refl w2.heap.size w2) (.cells #[.string tv.1, .int .i64 0] 54)) (.cells #[.string tv.1] 9)))
    have SR := Lib.hid (show StrsRd ((w2.alloc (.cells #[.string tv.1, .int .i64 0] 54)).alloc (.cells #[.string tv.1] 9)) (.slice (some ⟨w2.heap.size + 1, 0, none⟩) 1 1) [tv.1] from
      ⟨_, _, rfl, Nat.le_refl _, by simp [maxLen], fun j x hj => by
        cases j with
        | zero =>
          simp only [List.getElem?_cons_zero, Option.some.injEq] at hj
          subst hj
          refine ⟨_, _, rfl, ?_⟩
          simp [go_sem]
        | succ j => simp at hj⟩)
    refine (rjoin _ _ _ SR.out (by intro x hx; have := HS.out; simp at hx; subst hx; omega)).mono ?_
    generalize joinR [tv.1] = r at *
    rintro e w4 ⟨rfl, hb⟩
    obtain ⟨⟨r0, r1, r2, r3, r4⟩, ⟨f0, f1, f2, f3, f4⟩, rl⟩ := (G3.out.below hb).full
    have B1 := Lib.hid (below_tr B3.out hb)
    clear hb
    go_wp2_with fail
    exact bodyPost_ret (v := .agg #[.int .i64 r.1.kind, .int .i64 r.1.num, .string r.1.text, .slice none 0 0, .int .i64 r.2]) (by simp [results, Tryd.results8, go_sem, r0, r1, r2, r3, r4]) rfl (by rw [hc, ← JR.out]; exact ⟨rfl, below_set5 B1.out (Nat.le_refl _) _ _ _ _ _⟩)
  · have JR := Lib.hid (show textR (textT v).1 (textT v).2 = (vz, (textT v).2) from if_neg hc)
    generalize textT v = tv at *
    go_wp2_with fail
    have B3 := Lib.hid (below_al B2.out (.cells #[.string tv.1, .int .i64 tv.2] 54))
    have G3 := Lib.hid (G2.out.below (below_al (Below.refl w2.heap.size w2) (.cells #[.string tv.1, .int .i64 tv.2] 54)))
    refine (rbad _ _).mono ?_
    rintro e w4 ⟨rfl, hb⟩
    obtain ⟨⟨r0, r1, r2, r3, r4⟩, ⟨f0, f1, f2, f3, f4⟩, rl⟩ := (G3.out.below hb).full
    have B1 := Lib.hid (below_tr B3.out hb)
    clear hb
    go_wp2_with fail
    exact bodyPost_ret (v := .agg #[.int .i64 0, .int .i64 0, .string ⟨#[]⟩, .slice none 0 0, .int .i64 tv.2]) (by simp [results, Tryd.results8, go_sem, r0, r1, r2, r3, r4, vz, VL.kind, VL.num, VL.text]) rfl (by rw [JR.out]; exact ⟨rfl, below_set5 B1.out (Nat.le_refl _) _ _ _ _ _⟩)
end
end Go.Proofs.YtoaachefdbepiaaDoor
