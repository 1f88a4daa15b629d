/- The law of any values, walked. -/
import Derived.Test.YtmmdjpogepjdaaaDoorValAlb
namespace Go.Proofs.YtmmdjpogepjdaaaDoor
open Go.RowKit
set_option linter.unusedVariables false
set_option linter.unusedSimpArgs false
section
variable (w : World)
set_option maxRecDepth 100000
set_option maxHeartbeats 8000000 in
theorem law_all4 (k : Int) (a b : VL) (la lb : Value) (D : Nat) (ha : RowRd w D a.kids la) (hb : RowRd w D b.kids lb) (ia : I64 a.num) (ib : I64 b.num) (ht : TabOK w) :
    Calls Tryd.prog 3 #[.int .i64 k, .agg #[.int .i64 a.kind, .int .i64 a.num, .string a.text, la], .agg #[.int .i64 b.kind, .int .i64 b.num, .string b.text, lb]] w (Made (.bool true) w) := by
  have HT := Lib.hid ht
  have IA := Lib.hid ia
  have IB := Lib.hid ib
  have RA := Lib.hid ha
  have RB := Lib.hid hb
  have GA := Lib.hid (fun W (hW : Below w.heap.size w W) => rgreat W D a la (ha.below hW))
  have GB := Lib.hid (fun W (hW : Below w.heap.size w W) => rgreat W D b lb (hb.below hW))
  have MA := Lib.hid (fun W (hW : Below w.heap.size w W) => vMay W D a la (ha.below hW))
  have MB := Lib.hid (fun W (hW : Below w.heap.size w W) => vMay W D b lb (hb.below hW))
  have NA := Lib.hid (fun W (hW : Below w.heap.size w W) => rMayValE W D a la (ha.below hW))
  have NB := Lib.hid (fun W (hW : Below w.heap.size w W) => rMayValE W D b lb (hb.below hW))
  obtain ⟨lao, lac, rfl⟩ := ha.shape
  obtain ⟨lbo, lbc, rfl⟩ := hb.shape
  clear ha hb ht ia ib
  go_enter Tryd.func3, Tryd.ntmps3
  go_wp2_with fail
  have A0 := Lib.hid ((VBlk.new w a (.slice lao a.kids.length lac)).below (below_al (Below.refl _ _) (.cells #[.int .i64 b.kind, .int .i64 b.num, .string b.text, .slice lbo b.kids.length lbc] 24)))
  have B0 := Lib.hid (VBlk.new (w.alloc (.cells #[.int .i64 a.kind, .int .i64 a.num, .string a.text, .slice lao a.kids.length lac] 24)) b (.slice lbo b.kids.length lbc))
  rw [show (w.alloc (.cells #[.int .i64 a.kind, .int .i64 a.num, .string a.text, .slice lao a.kids.length lac] 24)).heap.size = w.heap.size + 1 by simp] at B0
  have W3 := Lib.hid (show Below w.heap.size w _ from below_al (below_al (Below.refl w.heap.size w) (.cells #[.int .i64 a.kind, .int .i64 a.num, .string a.text, .slice lao a.kids.length lac] 24)) (.cells #[.int .i64 b.kind, .int .i64 b.num, .string b.text, .slice lbo b.kids.length lbc] 24))
  generalize (w.alloc (.cells #[.int .i64 a.kind, .int .i64 a.num, .string a.text, .slice lao a.kids.length lac] 24)).alloc (.cells #[.int .i64 b.kind, .int .i64 b.num, .string b.text, .slice lbo b.kids.length lbc] 24) = w3 at *
  refine (GA.out _ W3.out).mono ?_
  rintro e w4 ⟨gb1, rfl, hb4⟩
  have W4 := Lib.hid (below_tr W3.out hb4)
  have A4 := Lib.hid (A0.out.below hb4)
  have B4 := Lib.hid (B0.out.below hb4)
  clear hb4 W3 A0 B0 GA
  obtain ⟨x0, x1, x2, x3⟩ := A4.out.cells
  obtain ⟨y0, y1, y2, y3⟩ := B4.out.cells
  cases gb1
  case true =>
    go_wp2_with fail
    refine (law_awake _).mono ?_
    rintro e w5 ⟨rfl, hb5⟩
    have W5 := Lib.hid (below_tr W4.out hb5)
    clear hb5
    go_wp2_with fail
    go_ret
    exact ⟨rfl, W5.out⟩
  case false =>
    go_wp2_with fail
    refine (GB.out _ W4.out).mono ?_
    rintro e w5 ⟨gb2, rfl, hb5⟩
    have W5 := Lib.hid (below_tr W4.out hb5)
    have A5 := Lib.hid (A4.out.below hb5)
    have B5 := Lib.hid (B4.out.below hb5)
    clear hb5 W4 A4 B4 GB x0 x1 x2 x3 y0 y1 y2 y3
    obtain ⟨x0, x1, x2, x3⟩ := A5.out.cells
    obtain ⟨y0, y1, y2, y3⟩ := B5.out.cells
    cases gb2
    case true =>
      go_wp2_with fail
      refine (law_awake _).mono ?_
      rintro e w6 ⟨rfl, hb6⟩
      have W6 := Lib.hid (below_tr W5.out hb6)
      clear hb6
      go_wp2_with fail
      go_ret
      exact ⟨rfl, W6.out⟩
    case false =>
      go_wp2_with fail
      clear x0 x1 x2 x3 y0 y1 y2 y3
      generalize w.heap.size + 1 = GB at *
      generalize w.heap.size = GA at A5 ⊢
      have CMA := Lib.hid (fun V (h : Below w5.heap.size w5 V) => MA.out V (below_tr W5.out h))
      have CMB := Lib.hid (fun V (h : Below w5.heap.size w5 V) => MB.out V (below_tr W5.out h))
      have CNA := Lib.hid (fun V (h : Below w5.heap.size w5 V) => NA.out V (below_tr W5.out h))
      have CNB := Lib.hid (fun V (h : Below w5.heap.size w5 V) => NB.out V (below_tr W5.out h))
      clear MA MB NA NB
      generalize hma : mayB 64 a = ma at *
      generalize hmb : mayB 64 b = mb at *
      have QA := Lib.hid hma
      have QB := Lib.hid hmb
      clear hma hmb
      have K := W5
      clear W5
      generalize hwd : w5 = wd at *
      clear hwd
      have SAB : Hid (∀ V, Below wd.heap.size wd V → (fun w' => w'.cell? ⟨GA, 0, none⟩ = some (.int .i64 a.kind) ∧ w'.cell? ⟨GA, 1, none⟩ = some (.int .i64 a.num) ∧ w'.cell? ⟨GA, 2, none⟩ = some (.string a.text) ∧ w'.cell? ⟨GA, 3, none⟩ = some (.slice lao a.kids.length lac) ∧ w'.cell? ⟨GB, 0, none⟩ = some (.int .i64 b.kind) ∧ w'.cell? ⟨GB, 1, none⟩ = some (.int .i64 b.num) ∧ w'.cell? ⟨GB, 2, none⟩ = some (.string b.text) ∧ w'.cell? ⟨GB, 3, none⟩ = some (.slice lbo b.kids.length lbc)) V) := Lib.hid (fun V h => by
        obtain ⟨v0, v1, v2, v3⟩ := (A5.out.below h).cells
        obtain ⟨u0, u1, u2, u3⟩ := (B5.out.below h).cells
        exact ⟨v0, v1, v2, v3, u0, u1, u2, u3⟩)
      cases ma <;> cases mb
      all_goals
        go_region_held3 (fun w' => w'.cell? ⟨GA, 0, none⟩ = some (.int .i64 a.kind) ∧ w'.cell? ⟨GA, 1, none⟩ = some (.int .i64 a.num) ∧ w'.cell? ⟨GA, 2, none⟩ = some (.string a.text) ∧ w'.cell? ⟨GA, 3, none⟩ = some (.slice lao a.kids.length lac) ∧ w'.cell? ⟨GB, 0, none⟩ = some (.int .i64 b.kind) ∧ w'.cell? ⟨GB, 1, none⟩ = some (.int .i64 b.num) ∧ w'.cell? ⟨GB, 2, none⟩ = some (.string b.text) ∧ w'.cell? ⟨GB, 3, none⟩ = some (.slice lbo b.kids.length lbc)) (((with_reducible refine SAB.out _ ?_); (repeat (first | with_reducible exact HB.out | with_reducible exact Below.refl _ _ | with_reducible refine below_drew ?_ | with_reducible refine below_drewN ?_ _ | with_reducible refine below_al ?_ _)))) (first
        | (go_at_call 6; (first | ((with_reducible refine (CMA.out _ ?_).mono ?_); (· (repeat (first | with_reducible exact HB.out | with_reducible exact Below.refl _ _ | with_reducible refine below_drew ?_ | with_reducible refine below_drewN ?_ _ | with_reducible refine below_al ?_ _)))) | ((with_reducible refine (CMB.out _ ?_).mono ?_); (· (repeat (first | with_reducible exact HB.out | with_reducible exact Below.refl _ _ | with_reducible refine below_drew ?_ | with_reducible refine below_drewN ?_ _ | with_reducible refine below_al ?_ _))))); rintro e w'' ⟨rfl, hb⟩; (have HB' : Below wd.heap.size wd w'' := by ((refine below_tr ?_ hb); (repeat (first | with_reducible exact HB.out | with_reducible exact Below.refl _ _ | with_reducible refine below_drew ?_ | with_reducible refine below_drewN ?_ _ | with_reducible refine below_al ?_ _)))); (clear hb); (have HB := Lib.hid HB'); (clear HB'))
        | (go_at_call 7; (first | ((with_reducible refine (CNA.out _ ?_).mono ?_); (· (repeat (first | with_reducible exact HB.out | with_reducible exact Below.refl _ _ | with_reducible refine below_drew ?_ | with_reducible refine below_drewN ?_ _ | with_reducible refine below_al ?_ _)))) | ((with_reducible refine (CNB.out _ ?_).mono ?_); (· (repeat (first | with_reducible exact HB.out | with_reducible exact Below.refl _ _ | with_reducible refine below_drew ?_ | with_reducible refine below_drewN ?_ _ | with_reducible refine below_al ?_ _))))); rintro e w'' ⟨rfl, hb⟩; (have HB' : Below wd.heap.size wd w'' := by ((refine below_tr ?_ hb); (repeat (first | with_reducible exact HB.out | with_reducible exact Below.refl _ _ | with_reducible refine below_drew ?_ | with_reducible refine below_drewN ?_ _ | with_reducible refine below_al ?_ _)))); (clear hb); (have HB := Lib.hid HB'); (clear HB')))
        all_goals go_wp2_with fail
      · refine (CNA.out _ HB.out).mono ?_
        rintro e w6 ⟨rfl, hb6⟩
        have H7 := Lib.hid (below_tr HB.out hb6)
        clear hb6
        go_wp2_with fail
        refine (law_awake _).mono ?_
        rintro e w7 ⟨rfl, hb7⟩
        have W7 := Lib.hid (below_tr K.out (below_tr H7.out hb7))
        clear hb7
        go_wp2_with fail
        go_ret
        exact ⟨rfl, W7.out⟩
      · refine (CNA.out _ HB.out).mono ?_
        rintro e w6 ⟨rfl, hb6⟩
        have H7 := Lib.hid (below_tr HB.out hb6)
        clear hb6
        go_wp2_with fail
        refine (law_awake _).mono ?_
        rintro e w7 ⟨rfl, hb7⟩
        have W7 := Lib.hid (below_tr K.out (below_tr H7.out hb7))
        clear hb7
        go_wp2_with fail
        go_ret
        exact ⟨rfl, W7.out⟩
      · refine (CNA.out _ HB.out).mono ?_
        rintro e w6 ⟨rfl, hb6⟩
        have H6 := Lib.hid (below_tr HB.out hb6)
        clear hb6
        obtain ⟨x0, x1, x2, x3, y0, y1, y2, y3⟩ := SAB.out _ H6.out
        go_wp2_with fail
        refine (CNB.out _ H6.out).mono ?_
        rintro e w8 ⟨rfl, hb6⟩
        have H7 := Lib.hid (below_tr H6.out hb6)
        clear hb6 x0 x1 x2 x3 y0 y1 y2 y3
        go_wp2_with fail
        refine (law_awake _).mono ?_
        rintro e w7 ⟨rfl, hb7⟩
        have W7 := Lib.hid (below_tr K.out (below_tr H7.out hb7))
        clear hb7
        go_wp2_with fail
        go_ret
        exact ⟨rfl, W7.out⟩
      · refine (CNA.out _ HB.out).mono ?_
        rintro e w6 ⟨rfl, hb6⟩
        have H6 := Lib.hid (below_tr HB.out hb6)
        clear hb6
        obtain ⟨x0, x1, x2, x3, y0, y1, y2, y3⟩ := SAB.out _ H6.out
        go_wp2_with fail
        refine (CNB.out _ H6.out).mono ?_
        rintro e w8 ⟨rfl, hb6⟩
        have H7 := Lib.hid (below_tr H6.out hb6)
        clear hb6 x0 x1 x2 x3 y0 y1 y2 y3
        obtain ⟨x0, x1, x2, x3, y0, y1, y2, y3⟩ := SAB.out _ H7.out
        have PA := Lib.hid (may_parts QA.out)
        go_wp2_with fail
        refine (vtext w8 a lao _ lac IA.out PA.out.kinds (HT.out.below (below_tr K.out H7.out))).mono ?_
        rintro e w9 ⟨rfl, hb6⟩
        have H9 := Lib.hid (below_tr H7.out hb6)
        clear hb6 x0 x1 x2 x3 y0 y1 y2 y3
        obtain ⟨x0, x1, x2, x3, y0, y1, y2, y3⟩ := SAB.out _ H9.out
        obtain ⟨tv, htv⟩ : ∃ tv, tv = textT a := ⟨_, rfl⟩
        have TV := Lib.hid htv
        rw [← htv]
        clear htv
        go_wp2_with fail
        refine (rtext w9 a lao _ lac IA.out PA.out.kinds).mono ?_
        rw [← TV.out]
        rintro e w10 ⟨rfl, hb6⟩
        have H10 := Lib.hid (below_tr H9.out hb6)
        clear hb6 x0 x1 x2 x3 y0 y1 y2 y3
        obtain ⟨x0, x1, x2, x3, y0, y1, y2, y3⟩ := SAB.out _ (below_al H10.out (.cells #[.string tv.1, .int .i64 tv.2] 32))
        go_wp2_with fail
        clear x0 x1 x2 x3 y0 y1 y2 y3
        have H11 := Lib.hid (below_al H10.out (.cells #[.string tv.1, .int .i64 tv.2] 32))
        have T11 := Lib.hid (heap_alloc_new w10 (.cells #[.string tv.1, .int .i64 tv.2] 32))
        generalize w10.alloc (.cells #[.string tv.1, .int .i64 tv.2] 32) = w11 at *
        generalize w10.heap.size = GT at *
        refine (vone w11 D a _ k (RA.out.below (below_tr K.out H11.out)) IA.out).mono ?_
        generalize hx : oneR k a = x
        rintro e w12 ⟨rfl, hb6⟩
        have XV := Lib.hid hx
        have H12 := Lib.hid (below_tr H11.out hb6)
        have T12 := Lib.hid ((hb6.block GT (Array.getElem?_eq_some_iff.1 T11.out).1).trans T11.out)
        clear hb6 hx T11
        obtain ⟨x0, x1, x2, x3, y0, y1, y2, y3⟩ := SAB.out _ (below_al H12.out (.cells #[.int .i64 x.1.kind, .int .i64 x.1.num, .string x.1.text, .slice none 0 0] 24))
        go_wp2_with fail
        clear x0 x1 x2 x3 y0 y1 y2 y3
        have H13 := Lib.hid (below_al H12.out (.cells #[.int .i64 x.1.kind, .int .i64 x.1.num, .string x.1.text, .slice none 0 0] 24))
        have A13 := Lib.hid (below_al (Below.refl w12.heap.size w12) (.cells #[.int .i64 x.1.kind, .int .i64 x.1.num, .string x.1.text, .slice none 0 0] 24))
        have T13 := Lib.hid ((A13.out.block GT (Array.getElem?_eq_some_iff.1 T12.out).1).trans T12.out)
        have X13 := Lib.hid (VBlk.new w12 x.1 (.slice none 0 0))
        generalize w12.alloc (.cells #[.int .i64 x.1.kind, .int .i64 x.1.num, .string x.1.text, .slice none 0 0] 24) = w13 at *
        generalize w12.heap.size = GX at *
        clear A13 T12
        refine (vtwo w13 D k a b _ _ (RA.out.below (below_tr K.out H13.out)) (RB.out.below (below_tr K.out H13.out)) IA.out IB.out).mono ?_
        generalize hy : twoR D k a b = y
        rintro e w14 ⟨rfl, hb6⟩
        have YV := Lib.hid hy
        have H14 := Lib.hid (below_tr H13.out hb6)
        have T14 := Lib.hid ((hb6.block GT (Array.getElem?_eq_some_iff.1 T13.out).1).trans T13.out)
        have X14 := Lib.hid (X13.out.below hb6)
        clear hb6 hy T13 X13
        obtain ⟨x0, x1, x2, x3, y0, y1, y2, y3⟩ := SAB.out _ (below_al H14.out (.cells #[.int .i64 y.1.kind, .int .i64 y.1.num, .string y.1.text, .slice none 0 0] 24))
        go_wp2_with fail
        clear x0 x1 x2 x3 y0 y1 y2 y3
        have H15 := Lib.hid (below_al H14.out (.cells #[.int .i64 y.1.kind, .int .i64 y.1.num, .string y.1.text, .slice none 0 0] 24))
        have A15 := Lib.hid (below_al (Below.refl w14.heap.size w14) (.cells #[.int .i64 y.1.kind, .int .i64 y.1.num, .string y.1.text, .slice none 0 0] 24))
        have T15 := Lib.hid ((A15.out.block GT (Array.getElem?_eq_some_iff.1 T14.out).1).trans T14.out)
        have X15 := Lib.hid (X14.out.below A15.out)
        have Y15 := Lib.hid (VBlk.new w14 y.1 (.slice none 0 0))
        generalize w14.alloc (.cells #[.int .i64 y.1.kind, .int .i64 y.1.num, .string y.1.text, .slice none 0 0] 24) = w15 at *
        generalize w14.heap.size = GY at *
        clear A15 T14 X14
        refine (vindexG w15 D a b _ _ (RA.out.below (below_tr K.out H15.out)) (RB.out.below (below_tr K.out H15.out)) QA.out QB.out).mono ?_
        generalize hz : idxR a b = z
        rintro e w16 ⟨lz, rfl, hrz, hb6⟩
        have ZV := Lib.hid hz
        have H16 := Lib.hid (below_tr H15.out hb6)
        have T16 := Lib.hid ((hb6.block GT (Array.getElem?_eq_some_iff.1 T15.out).1).trans T15.out)
        have X16 := Lib.hid (X15.out.below hb6)
        have Y16 := Lib.hid (Y15.out.below hb6)
        have RZ16 := Lib.hid hrz
        obtain ⟨zo, zc, rfl⟩ := hrz.shape
        unfold VL.val
        clear hb6 hz hrz T15 X15 Y15
        obtain ⟨x0, x1, x2, x3, y0, y1, y2, y3⟩ := SAB.out _ (below_al H16.out (.cells #[.int .i64 z.1.kind, .int .i64 z.1.num, .string z.1.text, .slice zo z.1.kids.length zc] 24))
        go_wp2_with fail
        clear x0 x1 x2 x3 y0 y1 y2 y3
        have ZA := Lib.hid (below_al (Below.refl w16.heap.size w16) (.cells #[.int .i64 z.1.kind, .int .i64 z.1.num, .string z.1.text, .slice zo z.1.kids.length zc] 24))
        have HE := Lib.hid (below_tr H16.out ZA.out)
        have T17 := Lib.hid ((ZA.out.block GT (Array.getElem?_eq_some_iff.1 T16.out).1).trans T16.out)
        have X17 := Lib.hid (X16.out.below ZA.out)
        have Y17 := Lib.hid (Y16.out.below ZA.out)
        have Z17 := Lib.hid (VBlk.new w16 z.1 (.slice zo z.1.kids.length zc))
        have RZ := Lib.hid (RZ16.out.below ZA.out)
        clear ZA T16 X16 Y16 RZ16 H16 H15 H14 H13 H12 H11
        generalize w16.alloc (.cells #[.int .i64 z.1.kind, .int .i64 z.1.num, .string z.1.text, .slice zo z.1.kids.length zc] 24) = we at *
        generalize w16.heap.size = GZ at *
        have KE := Lib.hid (below_tr K.out HE.out)
        have SIX : Hid (∀ V, Below we.heap.size we V → (fun w' => w'.cell? ⟨GA, 0, none⟩ = some (.int .i64 a.kind) ∧ w'.cell? ⟨GA, 1, none⟩ = some (.int .i64 a.num) ∧ w'.cell? ⟨GA, 2, none⟩ = some (.string a.text) ∧ w'.cell? ⟨GA, 3, none⟩ = some (.slice lao a.kids.length lac) ∧ w'.cell? ⟨GB, 0, none⟩ = some (.int .i64 b.kind) ∧ w'.cell? ⟨GB, 1, none⟩ = some (.int .i64 b.num) ∧ w'.cell? ⟨GB, 2, none⟩ = some (.string b.text) ∧ w'.cell? ⟨GB, 3, none⟩ = some (.slice lbo b.kids.length lbc) ∧ w'.cell? ⟨GT, 0, none⟩ = some (.string tv.1) ∧ w'.cell? ⟨GT, 1, none⟩ = some (.int .i64 tv.2) ∧ w'.cell? ⟨GX, 0, none⟩ = some (.int .i64 x.1.kind) ∧ w'.cell? ⟨GX, 1, none⟩ = some (.int .i64 x.1.num) ∧ w'.cell? ⟨GX, 2, none⟩ = some (.string x.1.text) ∧ w'.cell? ⟨GX, 3, none⟩ = some (.slice none 0 0) ∧ w'.cell? ⟨GY, 0, none⟩ = some (.int .i64 y.1.kind) ∧ w'.cell? ⟨GY, 1, none⟩ = some (.int .i64 y.1.num) ∧ w'.cell? ⟨GY, 2, none⟩ = some (.string y.1.text) ∧ w'.cell? ⟨GY, 3, none⟩ = some (.slice none 0 0) ∧ w'.cell? ⟨GZ, 0, none⟩ = some (.int .i64 z.1.kind) ∧ w'.cell? ⟨GZ, 1, none⟩ = some (.int .i64 z.1.num) ∧ w'.cell? ⟨GZ, 2, none⟩ = some (.string z.1.text) ∧ w'.cell? ⟨GZ, 3, none⟩ = some (.slice zo z.1.kids.length zc)) V) := Lib.hid (fun V h => by
          obtain ⟨a0, a1, a2, a3, b0, b1, b2, b3⟩ := SAB.out _ (below_tr HE.out h)
          have ht := (h.block GT (Array.getElem?_eq_some_iff.1 T17.out).1).trans T17.out
          obtain ⟨p0, p1, p2, p3⟩ := (X17.out.below h).cells
          obtain ⟨q0, q1, q2, q3⟩ := (Y17.out.below h).cells
          obtain ⟨r0, r1, r2, r3⟩ := (Z17.out.below h).cells
          exact ⟨a0, a1, a2, a3, b0, b1, b2, b3, cell_of_row V GT 0 _ _ _ ht, cell_of_row V GT 1 _ _ _ ht, p0, p1, p2, p3, q0, q1, q2, q3, r0, r1, r2, r3⟩)
        have CS := Lib.hid (fun V (h : Below we.heap.size we V) => (vsame D).call a b _ _ V (RA.out.below (below_tr KE.out h)) (RB.out.below (below_tr KE.out h)))
        have CR := Lib.hid (fun V (h : Below we.heap.size we V) => (rsame D).call a b _ _ V (RA.out.below (below_tr KE.out h)) (RB.out.below (below_tr KE.out h)))
        have CT := Lib.hid (fun V => vtype V a lao a.kids.length lac PA.out.kinds)
        have CU := Lib.hid (fun V => rtype V a lao a.kids.length lac PA.out.kinds)
        have C1 := Lib.hid (fun V (h : Below we.heap.size we V) => made_one V k a lao a.kids.length lac IA.out x XV.out)
        have C2 := Lib.hid (fun V (h : Below we.heap.size we V) => made_two V D k a b _ _ (RA.out.below (below_tr KE.out h)) (RB.out.below (below_tr KE.out h)) IA.out IB.out y YV.out)
        have C3 := Lib.hid (fun V (h : Below we.heap.size we V) => made_idx V D a b _ lbo b.kids.length lbc (RA.out.below (below_tr KE.out h)) IB.out z ZV.out)
        have IX := Lib.hid (fun V => lis_leaf V x.1.kind x.1.num x.1.text x.2)
        have IY := Lib.hid (fun V => lis_leaf V y.1.kind y.1.num y.1.text y.2)
        have IZ := Lib.hid (fun V lg (h : Below we.heap.size we V) (hr : RowRd V (D - 1) z.1.kids lg) => lis_same V (D - 1) z.1 _ lg z.2 (RZ.out.below h) hr)
        clear SAB X17 Y17 Z17 T17 RZ RA RB HE CMA CMB CNA CNB QA QB PA XV YV ZV TV IA IB HT HB A5 B5 H6 H7 H9 H10
        generalize sameB D a b = sb at *
        generalize typT a = ty at *
        go_region_held3 (fun w' => w'.cell? ⟨GA, 0, none⟩ = some (.int .i64 a.kind) ∧ w'.cell? ⟨GA, 1, none⟩ = some (.int .i64 a.num) ∧ w'.cell? ⟨GA, 2, none⟩ = some (.string a.text) ∧ w'.cell? ⟨GA, 3, none⟩ = some (.slice lao a.kids.length lac) ∧ w'.cell? ⟨GB, 0, none⟩ = some (.int .i64 b.kind) ∧ w'.cell? ⟨GB, 1, none⟩ = some (.int .i64 b.num) ∧ w'.cell? ⟨GB, 2, none⟩ = some (.string b.text) ∧ w'.cell? ⟨GB, 3, none⟩ = some (.slice lbo b.kids.length lbc) ∧ w'.cell? ⟨GT, 0, none⟩ = some (.string tv.1) ∧ w'.cell? ⟨GT, 1, none⟩ = some (.int .i64 tv.2) ∧ w'.cell? ⟨GX, 0, none⟩ = some (.int .i64 x.1.kind) ∧ w'.cell? ⟨GX, 1, none⟩ = some (.int .i64 x.1.num) ∧ w'.cell? ⟨GX, 2, none⟩ = some (.string x.1.text) ∧ w'.cell? ⟨GX, 3, none⟩ = some (.slice none 0 0) ∧ w'.cell? ⟨GY, 0, none⟩ = some (.int .i64 y.1.kind) ∧ w'.cell? ⟨GY, 1, none⟩ = some (.int .i64 y.1.num) ∧ w'.cell? ⟨GY, 2, none⟩ = some (.string y.1.text) ∧ w'.cell? ⟨GY, 3, none⟩ = some (.slice none 0 0) ∧ w'.cell? ⟨GZ, 0, none⟩ = some (.int .i64 z.1.kind) ∧ w'.cell? ⟨GZ, 1, none⟩ = some (.int .i64 z.1.num) ∧ w'.cell? ⟨GZ, 2, none⟩ = some (.string z.1.text) ∧ w'.cell? ⟨GZ, 3, none⟩ = some (.slice zo z.1.kids.length zc)) (((with_reducible refine SIX.out _ ?_); (repeat (first | with_reducible exact HB.out | with_reducible exact Below.refl _ _ | with_reducible refine below_drew ?_ | with_reducible refine below_drewN ?_ _ | with_reducible refine below_al ?_ _)))) (first
          | (go_at_call 13; (with_reducible refine (CS.out _ ?_).mono ?_); (· (repeat (first | with_reducible exact HB.out | with_reducible exact Below.refl _ _ | with_reducible refine below_drew ?_ | with_reducible refine below_drewN ?_ _ | with_reducible refine below_al ?_ _))); rintro e w'' ⟨rfl, hb⟩; (have HB' : Below we.heap.size we w'' := by ((refine below_tr ?_ hb); (repeat (first | with_reducible exact HB.out | with_reducible exact Below.refl _ _ | with_reducible refine below_drew ?_ | with_reducible refine below_drewN ?_ _ | with_reducible refine below_al ?_ _)))); (clear hb); (have HB := Lib.hid HB'); (clear HB'))
          | (go_at_call 14; (with_reducible refine (CR.out _ ?_).mono ?_); (· (repeat (first | with_reducible exact HB.out | with_reducible exact Below.refl _ _ | with_reducible refine below_drew ?_ | with_reducible refine below_drewN ?_ _ | with_reducible refine below_al ?_ _))); rintro e w'' ⟨rfl, hb⟩; (have HB' : Below we.heap.size we w'' := by ((refine below_tr ?_ hb); (repeat (first | with_reducible exact HB.out | with_reducible exact Below.refl _ _ | with_reducible refine below_drew ?_ | with_reducible refine below_drewN ?_ _ | with_reducible refine below_al ?_ _)))); (clear hb); (have HB := Lib.hid HB'); (clear HB'))
          | (go_at_call 15; (with_reducible refine (CT.out _).mono ?_); rintro e w'' ⟨rfl, hb⟩; (have HB' : Below we.heap.size we w'' := by ((refine below_tr ?_ hb); (repeat (first | with_reducible exact HB.out | with_reducible exact Below.refl _ _ | with_reducible refine below_drew ?_ | with_reducible refine below_drewN ?_ _ | with_reducible refine below_al ?_ _)))); (clear hb); (have HB := Lib.hid HB'); (clear HB'))
          | (go_at_call 16; (with_reducible refine (CU.out _).mono ?_); rintro e w'' ⟨rfl, hb⟩; (have HB' : Below we.heap.size we w'' := by ((refine below_tr ?_ hb); (repeat (first | with_reducible exact HB.out | with_reducible exact Below.refl _ _ | with_reducible refine below_drew ?_ | with_reducible refine below_drewN ?_ _ | with_reducible refine below_al ?_ _)))); (clear hb); (have HB := Lib.hid HB'); (clear HB'))
          | (go_at_call 17; (with_reducible refine (lnum _ _).mono ?_); rintro e w'' ⟨rfl, rfl⟩)
          | (go_at_call 19; (with_reducible refine (C1.out _ ?_).mono ?_); (· (repeat (first | with_reducible exact HB.out | with_reducible exact Below.refl _ _ | with_reducible refine below_drew ?_ | with_reducible refine below_drewN ?_ _ | with_reducible refine below_al ?_ _))); rintro e w'' ⟨rfl, hb⟩; (have HB' : Below we.heap.size we w'' := by ((refine below_tr ?_ hb); (repeat (first | with_reducible exact HB.out | with_reducible exact Below.refl _ _ | with_reducible refine below_drew ?_ | with_reducible refine below_drewN ?_ _ | with_reducible refine below_al ?_ _)))); (clear hb); (have HB := Lib.hid HB'); (clear HB'))
          | (go_at_call 20; (with_reducible refine (C2.out _ ?_).mono ?_); (· (repeat (first | with_reducible exact HB.out | with_reducible exact Below.refl _ _ | with_reducible refine below_drew ?_ | with_reducible refine below_drewN ?_ _ | with_reducible refine below_al ?_ _))); rintro e w'' ⟨rfl, hb⟩; (have HB' : Below we.heap.size we w'' := by ((refine below_tr ?_ hb); (repeat (first | with_reducible exact HB.out | with_reducible exact Below.refl _ _ | with_reducible refine below_drew ?_ | with_reducible refine below_drewN ?_ _ | with_reducible refine below_al ?_ _)))); (clear hb); (have HB := Lib.hid HB'); (clear HB'))
          | (go_at_call 21; (with_reducible refine (C3.out _ ?_).mono ?_); (· (repeat (first | with_reducible exact HB.out | with_reducible exact Below.refl _ _ | with_reducible refine below_drew ?_ | with_reducible refine below_drewN ?_ _ | with_reducible refine below_al ?_ _))); rintro e w'' ⟨go, gc, rfl, hr, hb⟩; (have HB' : Below we.heap.size we w'' := by ((refine below_tr ?_ hb); (repeat (first | with_reducible exact HB.out | with_reducible exact Below.refl _ _ | with_reducible refine below_drew ?_ | with_reducible refine below_drewN ?_ _ | with_reducible refine below_al ?_ _)))); (clear hb); (have HB := Lib.hid HB'); (clear HB'); (have RG := Lib.hid hr); (clear hr))
          | (go_at_call 18; (first | (with_reducible refine (IX.out _).mono ?_) | (with_reducible refine (IY.out _).mono ?_) | ((with_reducible refine (IZ.out _ _ ?_ RG.out).mono ?_); (· (repeat (first | with_reducible exact HB.out | with_reducible exact Below.refl _ _ | with_reducible refine below_drew ?_ | with_reducible refine below_drewN ?_ _ | with_reducible refine below_al ?_ _))))); rintro e w'' ⟨rfl, hb⟩; (have HB' : Below we.heap.size we w'' := by ((refine below_tr ?_ hb); (repeat (first | with_reducible exact HB.out | with_reducible exact Below.refl _ _ | with_reducible refine below_drew ?_ | with_reducible refine below_drewN ?_ _ | with_reducible refine below_al ?_ _)))); (clear hb); (have HB := Lib.hid HB'); (clear HB'))
          | (go_at_call 5; (with_reducible refine (law_awake _).mono ?_); rintro e w'' ⟨rfl, hb⟩; (have HB' : Below we.heap.size we w'' := by ((refine below_tr ?_ hb); (repeat (first | with_reducible exact HB.out | with_reducible exact Below.refl _ _ | with_reducible refine below_drew ?_ | with_reducible refine below_drewN ?_ _ | with_reducible refine below_al ?_ _)))); (clear hb); (have HB := Lib.hid HB'); (clear HB')))
        all_goals go_wp2
        all_goals go_ret
        all_goals exact ⟨rfl, below_tr KE.out HB.out⟩
end
end Go.Proofs.YtmmdjpogepjdaaaDoor
