/- Package fun: sum, has. -/
import Derived.Test.YtoaachefdbepiaaDoorFunF
import Derived.Test.YtoaachefdbepiaaDoorValF
import Derived.Test.YtoaachefdbepiaaDoorValS
namespace Go.Proofs.YtoaachefdbepiaaDoor
open Go.RowKit
set_option linter.unusedVariables false
set_option linter.unusedSimpArgs false

/-- Numbers added up, from t on. -/
def sumR : Int → List Int → VL × Int
  | t, [] => (vnum t, 0)
  | t, x :: xs => if (fitR (t + x)).2 = 0 then sumR (t + x) xs else (vz, 8)
theorem fit_cases (r : Int) : (fitR r = (r, 0) ∧ I64 r) ∨ (fitR r = (0, 8) ∧ ¬ I64 r) := by
  unfold fitR I64
  by_cases h : -9223372036854775808 ≤ r ∧ r ≤ 9223372036854775807
  · exact .inl ⟨if_pos h, h⟩
  · exact .inr ⟨if_neg h, h⟩
theorem twoR_add (D : Nat) (t : Int) (u : VL) (hu : u.kind = 1) : twoR D 19 (vnum t) u = numR (fitR (t + u.num)) := by
  unfold twoR
  rw [if_neg (by omega), if_neg (by omega), if_neg (by omega), if_pos (by omega), if_pos ⟨rfl, hu⟩]
  rfl
theorem nblk_set4 {w : World} {g : Nat} {k n : Int} {s : ByteArray} (h : NBlk w g k n s) (k' n' : Int) (s' : ByteArray) :
    NBlk ((((w.setCell ⟨g, 0, none⟩ (.int .i64 k')).setCell ⟨g, 1, none⟩ (.int .i64 n')).setCell ⟨g, 2, none⟩ (.string s')).setCell ⟨g, 3, none⟩ (.slice none 0 0)) g k' n' s' := by
  have h0 := heap_setCell_same w g 0 _ _ (.int .i64 k') h
  have h1 := heap_setCell_same _ g 1 _ _ (.int .i64 n') h0
  have h2 := heap_setCell_same _ g 2 _ _ (.string s') h1
  exact heap_setCell_same _ g 3 _ _ (.slice none 0 0) h2
theorem nblk_far4 {w : World} {g f : Nat} {k n : Int} {s : ByteArray} (h : NBlk w g k n s) (hf : g ≠ f) (a b c d : Value) :
    NBlk ((((w.setCell ⟨f, 0, none⟩ a).setCell ⟨f, 1, none⟩ b).setCell ⟨f, 2, none⟩ c).setCell ⟨f, 3, none⟩ d) g k n s :=
  (((h.far hf a).far hf b).far hf c).far hf d
section
variable (w : World)
set_option maxHeartbeats 8000000 in
set_option maxRecDepth 20000 in
theorem fsum (D : Nat) (v : VL) (lv : Value) (h : RowRd w D [v] lv) (hk : ∀ u ∈ v.kids, u.kind = 1 ∧ I64 u.num) : Calls Tryd.prog 32 #[lv] w (Told (sumR 0 (v.kids.map VL.num)) w) := by
  have HK := Lib.hid hk
  obtain ⟨ao, cap, rfl, hat⟩ := h.at
  obtain ⟨g, o, lu, rfl, -, c0, c1, c2, c3, hr⟩ := hat 0 v rfl
  have HR := Lib.hid hr
  have hlk := hr.len
  unfold maxLen at hlk
  obtain ⟨lao, lcap, rfl⟩ := hr.shape
  simp only [Nat.zero_mul, Nat.add_zero] at c0 c1 c2 c3
  have hg : g < w.heap.size := World.block_lt_of_cell? w _ c0
  clear hat hr h hk
  go_enter Tryd.func32, Tryd.ntmps32
  go_wp2_with fail
  with_reducible refine (finteger _ _).mono ?_
  rintro e w1 ⟨rfl, hb1⟩
  have R := Lib.hid ((NBlk.new w 0 0 ⟨#[]⟩).below hb1)
  have GT := Lib.hid R.out.lt
  have B1 := Lib.hid (below_tr (below_al (Below.refl w.heap.size w) _) hb1)
  have c3' := hold B1.out c3
  have hg1 := Nat.lt_of_lt_of_le hg B1.out.size
  clear hb1 c0 c1 c2 c3
  go_wp2_with fail
  have T0 := Lib.hid (NBlk.new w1 1 0 ⟨#[]⟩)
  have B2 := Lib.hid (below_al B1.out (.cells #[.int .i64 1, .int .i64 0, .string ⟨#[]⟩, .slice none 0 0] 26))
  replace R := Lib.hid (R.out.al (.cells #[.int .i64 1, .int .i64 0, .string ⟨#[]⟩, .slice none 0 0] 26))
  generalize w1.alloc (.cells #[.int .i64 1, .int .i64 0, .string ⟨#[]⟩, .slice none 0 0] 26) = wa at *
  generalize w1.heap.size = GA at T0 GT ⊢
  have GW := Lib.hid (show w.heap.size ≤ GA by have := GT.out; omega)
  clear c3' hg hg1 B1
  go_loopg [5, 14] v.kids.length (fun m ev iv wr => ∃ (i : Nat) (t : Int), iv = .int .i64 i ∧ ev = .int .i64 0 ∧ v.kids.length - i ≤ m ∧ i ≤ v.kids.length ∧ Below w.heap.size w wr ∧ NBlk wr GA 1 t ⟨#[]⟩ ∧ NBlk wr w.heap.size 0 0 ⟨#[]⟩ ∧ I64 t ∧ Hid (sumR 0 (v.kids.map VL.num) = sumR t ((v.kids.map VL.num).drop i)))
  case atStart => exact ⟨0, 0, rfl, rfl, Nat.le_refl _, Nat.zero_le _, B2.out, T0.out, R.out, by unfold I64; omega, Lib.hid rfl⟩
  case round =>
    obtain ⟨i, t, rfl, rfl, hm, hi, hb, hT, hR, ht, SU⟩ := hrel
    have HM := Lib.hid hm
    have BR := Lib.hid hb
    have TB := Lib.hid hT
    have RB := Lib.hid hR
    have T64 := Lib.hid ht
    clear hm hb hT hR ht
    by_cases hil : i < v.kids.length
    · obtain ⟨u, hu⟩ : ∃ u, v.kids[i]? = some u := ⟨_, List.getElem?_eq_getElem hil⟩
      obtain ⟨hu1, hu2⟩ := HK.out u (List.mem_of_getElem? hu)
      obtain ⟨ao2, cap2, e2, hat⟩ := (HR.out.below BR.out).at
      simp only [Value.slice.injEq, true_and] at e2
      obtain ⟨rfl, rfl⟩ := e2
      obtain ⟨g2, o2, lv2, rfl, -, k0, k1, k2, k3, hr⟩ := hat i u hu
      have DR := Lib.hid (show (v.kids.map VL.num).drop i = u.num :: (v.kids.map VL.num).drop (i + 1) by
        rw [List.drop_eq_getElem_cons (by simpa using hil)]
        congr 1
        rw [List.getElem_map]
        have := (List.getElem?_eq_some_iff.1 hu).2
        rw [this])
      have TW := Lib.hid (fun W (hw : Below wr.heap.size wr W) => vtwo W (D - 1 - 1) 19 (vnum t) u nilV lv2 (RowRd.nil _ _ _ _) (hr.below hw) T64.out hu2)
      simp only [twoR_add (D - 1 - 1) t u hu1] at TW
      obtain ⟨lo2, lc2, rfl⟩ := hr.shape
      obtain ⟨t0, t1, t2, t3, tl⟩ := TB.out.cells
      clear hat hu hr hu1 hu2
      rcases fit_cases (t + u.num) with ⟨hf, hf2⟩ | ⟨hf, hf2⟩
      · rw [hf] at TW
        have SN := Lib.hid (show sumR 0 (v.kids.map VL.num) = sumR (t + u.num) ((v.kids.map VL.num).drop (i + 1)) by
          rw [SU.out, DR.out]; show (if (fitR (t + u.num)).2 = 0 then _ else _) = _; rw [hf]; rfl)
        have I6 := Lib.hid hf2
        clear hf hf2
        generalize t + u.num = s at *
        go_wp2_with fail
        refine (TW.out _ (below_al (Below.refl _ _) _)).mono ?_
        rintro e w2 ⟨rfl, hb2⟩
        have B3 := Lib.hid (below_tr (below_al BR.out _) hb2)
        have T3 := Lib.hid ((TB.out.al _).below hb2)
        have R3 := Lib.hid ((RB.out.al _).below hb2)
        clear hb2 t0 t1 t2 t3 tl k0 k1 k2 k3
        obtain ⟨⟨t0, t1, t2, t3, tl⟩, f0, f1, f2, f3⟩ := T3.out.full
        go_wp2_with fail
        go_roundg (v.kids.length - (i + 1))
        case rel => exact ⟨i + 1, s, rfl, rfl, Nat.le_refl _, hil, below_set4 B3.out GW.out _ _ _ _, nblk_set4 T3.out _ _ _, nblk_far4 R3.out (by have := GT.out; omega) _ _ _ _, I6.out, SN⟩
        case measure => have := HM.out; omega
      · rw [hf, show numR ((0 : Int), (8 : Int)) = (vz, 8) from rfl] at TW
        have SN := Lib.hid (show sumR 0 (v.kids.map VL.num) = (vz, 8) by
          rw [SU.out, DR.out]; show (if (fitR (t + u.num)).2 = 0 then _ else _) = _; rw [hf]; rfl)
        rw [SN.out]
        clear hf hf2
        go_wp2_with fail
        refine (TW.out _ (below_al (Below.refl _ _) _)).mono ?_
        rintro e w2 ⟨rfl, hb2⟩
        have B3 := Lib.hid (below_tr (below_al BR.out _) hb2)
        have T3 := Lib.hid ((TB.out.al _).below hb2)
        have R3 := Lib.hid ((RB.out.al _).below hb2)
        clear hb2 t0 t1 t2 t3 tl k0 k1 k2 k3
        obtain ⟨⟨t0, t1, t2, t3, tl⟩, f0, f1, f2, f3⟩ := T3.out.full
        obtain ⟨⟨r0, r1, r2, r3, rl⟩, h0, h1, h2, h3⟩ := R3.out.full
        have gne : ¬ GA = w.heap.size := by have := GT.out; omega
        have gne2 : ¬ w.heap.size = GA := by have := GT.out; omega
        go_wp2_with fail
        exact bodyPost_ret (v := .tuple #[.agg #[.int .i64 0, .int .i64 0, .string ⟨#[]⟩, .slice none 0 0], .int .i64 8]) (by simp [results, Tryd.results32, go_sem, r0, r1, r2, r3, gne, gne2]) rfl ⟨rfl, below_set4 (below_set4 B3.out GW.out _ _ _ _) (Nat.le_refl _) _ _ _ _⟩
    · have e : (v.kids.map VL.num).drop i = [] := List.drop_of_length_le (by simp; omega)
      have SN := Lib.hid (show sumR 0 (v.kids.map VL.num) = (vnum t, 0) by rw [SU.out, e]; rfl)
      obtain ⟨t0, t1, t2, t3, tl⟩ := TB.out.cells
      obtain ⟨⟨r0, r1, r2, r3, rl⟩, h0, h1, h2, h3⟩ := RB.out.full
      clear e
      go_wp2_with fail
      exact bodyPost_ret (v := .tuple #[.agg #[.int .i64 1, .int .i64 t, .string ⟨#[]⟩, .slice none 0 0], .int .i64 0]) (by simp [results, Tryd.results32, go_sem, r0, r1, r2, r3]) rfl ⟨by rw [SN.out]; rfl, below_set4 BR.out (Nat.le_refl _) _ _ _ _⟩
def boolN (b : Bool) : Int := if b then 1 else 0
/-- Is a value among these? -/
def hasB (D : Nat) (l : List VL) (b : VL) : Bool := l.any fun u => sameB D u b
set_option maxHeartbeats 8000000 in
set_option maxRecDepth 20000 in
theorem fhas (D : Nat) (a b : VL) (lv : Value) (h : RowRd w D [a, b] lv) : Calls Tryd.prog 38 #[lv] w (IsTold 3 (boolN (hasB D a.kids b)) ⟨#[]⟩ 0 w) := by
  obtain ⟨ao, cap, rfl, hat⟩ := h.at
  obtain ⟨g, o, la, rfl, -, c0, c1, c2, c3, hra⟩ := hat 0 a rfl
  obtain ⟨g', o', lb, e', -, d0, d1, d2, d3, hrb⟩ := hat 1 b rfl
  simp only [Option.some.injEq, Addr.mk.injEq, and_true] at e'
  obtain ⟨rfl, rfl⟩ := e'
  simp only [Nat.zero_mul, Nat.add_zero, Nat.one_mul] at c0 c1 c2 c3 d0 d1 d2 d3
  have hg : g < w.heap.size := World.block_lt_of_cell? w _ c0
  have RA := Lib.hid hra
  have RB := Lib.hid (hrb.up (E := D) (by omega))
  have hlk := hra.len
  unfold maxLen at hlk
  obtain ⟨lao, lac, rfl⟩ := hra.shape
  obtain ⟨lbo, lbc, rfl⟩ := hrb.shape
  clear hat hra hrb h
  have hl1 : (1 : Int) < ((1 : Nat) + 1 : Nat) := by decide
  have D0 := Lib.hid d0
  have D1 := Lib.hid d1
  have D2 := Lib.hid d2
  have D3 := Lib.hid d3
  go_enter Tryd.func38, Tryd.ntmps38
  go_wp2_with fail
  have R := Lib.hid (NBlk.new w 0 0 ⟨#[]⟩)
  have B0 := Lib.hid (show Kept w _ from below_al (Below.refl w.heap.size w) (.cells #[.int .i64 0, .int .i64 0, .string ⟨#[]⟩, .slice none 0 0] 26))
  generalize w.alloc (.cells #[.int .i64 0, .int .i64 0, .string ⟨#[]⟩, .slice none 0 0] 26) = wa at *
  generalize hG : w.heap.size = G at R ⊢
  have HG := Lib.hid hG
  clear hG c0 c1 c2 c3 d0 d1 d2 d3 hg
  go_loopg [11] a.kids.length (fun m iv wr => ∃ i : Nat, iv = .int .i64 i ∧ a.kids.length - i ≤ m ∧ i ≤ a.kids.length ∧ Below w.heap.size w wr ∧ NBlk wr G 0 0 ⟨#[]⟩ ∧ Hid (hasB D (a.kids.take i) b = false))
  case atStart => exact ⟨0, rfl, Nat.le_refl _, Nat.zero_le _, B0.out, R.out, Lib.hid rfl⟩
  case round =>
    obtain ⟨i, rfl, hm, hi, hb, hR, HF⟩ := hrel
    have HM := Lib.hid hm
    have BR := Lib.hid hb
    have RR := Lib.hid hR
    clear hm hb hR
    by_cases hil : i < a.kids.length
    · obtain ⟨u, hu⟩ : ∃ u, a.kids[i]? = some u := ⟨_, List.getElem?_eq_getElem hil⟩
      obtain ⟨ao2, cap2, e2, hat⟩ := (RA.out.below BR.out).at
      simp only [Value.slice.injEq, true_and] at e2
      obtain ⟨rfl, rfl⟩ := e2
      obtain ⟨g2, o2, lu, rfl, -, k0, k1, k2, k3, hr⟩ := hat i u hu
      have RU := Lib.hid (hr.up (E := D) (by omega))
      obtain ⟨luo, luc, rfl⟩ := hr.shape
      have TK := Lib.hid (show hasB D (a.kids.take (i + 1)) b = (hasB D (a.kids.take i) b || sameB D u b) by
        unfold hasB; rw [List.take_add_one, hu, List.any_append]; simp)
      have TA := Lib.hid (show sameB D u b = true → hasB D a.kids b = true from fun h => by
        unfold hasB; rw [List.any_eq_true]; exact ⟨u, List.mem_of_getElem? hu, h⟩)
      clear hat hu hr
      go_wp2_with fail
      clear k0 k1 k2 k3
      have X := Lib.hid (VBlk.new wr u (.slice luo u.kids.length luc))
      have BN := Lib.hid (below_al BR.out (.cells #[.int .i64 u.kind, .int .i64 u.num, .string u.text, .slice luo u.kids.length luc] 26))
      have BM := Lib.hid (below_al (Below.refl wr.heap.size wr) (.cells #[.int .i64 u.kind, .int .i64 u.num, .string u.text, .slice luo u.kids.length luc] 26))
      generalize wr.alloc (.cells #[.int .i64 u.kind, .int .i64 u.num, .string u.text, .slice luo u.kids.length luc] 26) = w2 at *
      generalize wr.heap.size = G2 at X ⊢
      obtain ⟨x0, x1, x2, x3⟩ := X.out.cells
      have y0 := hold BN.out D0.out
      have y1 := hold BN.out D1.out
      have y2 := hold BN.out D2.out
      have y3 := hold BN.out D3.out
      have SS := Lib.hid ((vsame D).call u b _ _ w2.drew (RU.out.below (below_tr BM.out (below_drew (Below.refl _ _)))) (RB.out.below (below_tr BN.out (below_drew (Below.refl _ _)))))
      go_still_tail 4, (by kernel_rfl)
      change wpList _ _ _ _ _ w2.drew
      cases hs : sameB D u b
      · rw [hs] at SS
        have FF := Lib.hid (show hasB D (a.kids.take (i + 1)) b = false by rw [TK.out, HF.out, hs]; rfl)
        clear hs x0 x1 x2 x3 y0 y1 y2 y3
        go_wp2_with (go_at_call 51; refine SS.out.mono ?_; rintro e w3 ⟨rfl, hb3⟩; have B3 := Lib.hid (below_tr BN.out (below_tr (below_drew (Below.refl w2.heap.size w2)) hb3)); have R3 := Lib.hid ((RR.out.below BM.out).below (below_tr (below_drew (Below.refl w2.heap.size w2)) hb3)); clear hb3)
        go_roundg (a.kids.length - (i + 1))
        case rel => exact ⟨i + 1, rfl, Nat.le_refl _, hil, B3.out, R3.out, FF⟩
        case measure => have := HM.out; omega
      · rw [hs] at SS
        have TT := Lib.hid (TA.out hs)
        clear hs x0 x1 x2 x3 y0 y1 y2 y3
        go_wp2_with (go_at_call 51; refine SS.out.mono ?_; rintro e w3 ⟨rfl, hb3⟩; have B3 := Lib.hid (below_tr BN.out (below_tr (below_drew (Below.refl w2.heap.size w2)) hb3)); obtain ⟨⟨r0, r1, r2, r3, rl⟩, f0, f1, f2, f3⟩ := (((RR.out.below BM.out).below (below_tr (below_drew (Below.refl w2.heap.size w2)) hb3))).full; clear hb3)
        exact bodyPost_ret (v := .tuple #[.agg #[.int .i64 3, .int .i64 1, .string ⟨#[]⟩, .slice none 0 0], .int .i64 0]) (by simp [results, Tryd.results38, go_sem, r0, r1, r2, r3]) rfl ⟨by rw [TT.out]; rfl, below_set4 B3.out (by have := HG.out; omega) _ _ _ _⟩
    · have TT := Lib.hid (show hasB D a.kids b = false by have h := HF.out; rwa [List.take_of_length_le (by omega)] at h)
      obtain ⟨⟨r0, r1, r2, r3, rl⟩, f0, f1, f2, f3⟩ := RR.out.full
      go_wp2_with fail
      exact bodyPost_ret (v := .tuple #[.agg #[.int .i64 3, .int .i64 0, .string ⟨#[]⟩, .slice none 0 0], .int .i64 0]) (by simp [results, Tryd.results38, go_sem, r0, r1, r2, r3]) rfl ⟨by rw [TT.out]; rfl, below_set4 BR.out (by have := HG.out; omega) _ _ _ _⟩
theorem run_sum (a : Array Value) (W : World) : (callFunc 32 a).run Tryd.prog W = .ok (.enter 32 a) W := run_enter Tryd.func32 (by kernel_rfl) (by kernel_rfl) a W
theorem run_has (a : Array Value) (W : World) : (callFunc 38 a).run Tryd.prog W = .ok (.enter 38 a) W := run_enter Tryd.func38 (by kernel_rfl) (by kernel_rfl) a W
theorem call_sum (D : Nat) (v : VL) (lv : Value) (h : RowRd w D [v] lv) (hv : v.kind = 4) (hk : ∀ u ∈ v.kids, u.kind = 1 ∧ I64 u.num) :
    Calls Tryd.prog 7 #[.string ⟨#[115, 117, 109]⟩, lv] w (Told (sumR 0 (v.kids.map VL.num)) w) :=
  call_told w _ [4] false 32 fnamed_sum (takes_one 4 (by omega)) D [v] lv h (check_one (by
    have : allB 1 v.kids = true := by unfold allB; rw [List.all_eq_true]; intro u hu; simp [(hk u hu).1]
    simp [fitsB, hv, this])) _ _ _ _ run_sum fun W hW => fsum W D v lv (h.below hW) hk
theorem call_has (D : Nat) (a b : VL) (lv : Value) (h : RowRd w D [a, b] lv) (ha : a.kind = 4) :
    Calls Tryd.prog 7 #[.string ⟨#[104, 97, 115]⟩, lv] w (IsTold 3 (boolN (hasB D a.kids b)) ⟨#[]⟩ 0 w) :=
  call_told w _ [3, 0] false 38 fnamed_has (takes_two 3 0 (by omega) (by omega)) D [a, b] lv h (check_two (by simp [fitsB, ha]) (by simp [fitsB])) _ _ _ _ run_has fun W hW => fhas W D a b lv (h.below hW)
end
end Go.Proofs.YtoaachefdbepiaaDoor
