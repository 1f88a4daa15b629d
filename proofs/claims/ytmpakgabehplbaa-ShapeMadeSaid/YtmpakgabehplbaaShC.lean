/- Trees that change: the document's old, Limit; walked. -/
import Derived.Test.YtmpakgabehplbaaShB
import Derived.Test.YtmpakgabehplbaaTrI
import Derived.Test.YtmpakgabehplbaaTrK
import Derived.Test.YtmpakgabehplbaaVecN
namespace Go.Proofs.Ytmpakgabehplbaa
open Go.RowKit
set_option linter.unusedVariables false
set_option linter.unusedSimpArgs false
theorem find_none {l : List I12} {t : ByteArray} (h : look l t = none) : findI l t = -1 := by
  unfold findI
  rw [look_iff.1 h]
theorem find_at {l : List I12} {t : ByteArray} {x : I12} (h : look l t = some x) : ∃ k : Nat, findI l t = (k : Int) ∧ l[k]? = some x := by
  obtain ⟨k, h1, h2⟩ := look_at h
  exact ⟨k, by unfold findI; rw [h1], h2⟩
theorem IRow.atP {w : World} {l : List I12} {ao : Option Addr} {n cap : Nat} (h : IRow w l (.slice ao n cap)) {k : Nat} {x : I12} (hx : l[k]? = some x) : ∃ g o, ao = some ⟨g, o, none⟩ ∧ I12At w g (o + k * 12) x := by
  obtain ⟨_, _, e9, _, _, h9⟩ := h
  simp only [Value.slice.injEq] at e9
  obtain ⟨rfl, -, rfl⟩ := e9
  exact h9 k x hx
theorem set_map {l : List I12} (hu : Uq l) {k : Nat} {x : I12} (hk : l[k]? = some x) {g : I12 → I12} (h : ∀ y ∈ l, y.name ≠ x.name → g y = y) : l.set k (g x) = l.map g := by
  apply List.ext_getElem?
  intro j
  rw [List.getElem?_set, List.getElem?_map]
  by_cases e : k = j
  · subst e
    have hkl := (List.getElem?_eq_some_iff.1 hk).1
    rw [if_pos rfl, if_pos hkl, hk]
    rfl
  · rw [if_neg e]
    cases hj : l[j]? with
    | none => rfl
    | some y =>
      have hy : y.name ≠ x.name := fun e2 => e (uq_at hu hk hj e2.symm)
      show some y = some (g y)
      rw [h y (List.mem_of_getElem? hj) hy]
theorem IOwn.set1 {w : World} {B g k : Nat} {l : List I12} {n cap : Nat} (h : IOwn w B l (.slice (some ⟨g, 0, none⟩) n cap)) {x y : I12} (hk : l[k]? = some x) (r : Nat) (hr : r < 12) (a : Value) (hy : y.cells = x.cells.set r a) :
    IOwn (w.setCell ⟨g, k * 12 + r, none⟩ a) B (l.set k y) (.slice (some ⟨g, 0, none⟩) n cap) := by
  obtain rfl : n = l.length := by
    rcases h.2 with ⟨e, h0⟩ | ⟨g', c', cur, e, -⟩
    · cases e
    · simp only [Value.slice.injEq] at e; exact e.2.1
  unfold IOwn at h ⊢
  rw [List.length_set, i12s_set l k r x y a hk hr hy]
  exact (h.stored (k * 12 + r) a).1
section
variable (w : World)
set_option maxHeartbeats 8000000 in
set_option maxRecDepth 20000 in
theorem rold (l : List I12) (lv : Value) (h : IRow w l lv) (s : ByteArray) (ver : Int) : Calls Try.prog 52 #[lv, .string s, .int .i64 ver] w fun e w' => e = .returned (.int .i64 (oldE l s ver : Nat)) ∧ w = w' := by
  have FS := Lib.hid (rfind w l lv h s)
  have H := Lib.hid h
  obtain ⟨ao, cap, rfl⟩ := h.shape
  cases hk : look l s with
  | none =>
    have R := Lib.hid (show oldE l s ver = 2 from by unfold oldE; rw [hk])
    rw [find_none hk] at FS
    clear h hk
    go_enter Try.func52, Try.ntmps52
    go_wp2_with fail
    with_reducible refine FS.out.mono ?_
    rintro e w1 ⟨rfl, rfl⟩
    go_wp2_with fail
    go_ret
    exact ⟨by rw [R.out]; rfl, rfl⟩
  | some x =>
    have R := Lib.hid (show oldE l s ver = if 0 ≤ ver ∧ x.ver ≠ ver then 14 else 0 from by unfold oldE; rw [hk])
    obtain ⟨k, hf, hx⟩ := find_at hk
    rw [hf] at FS
    obtain ⟨g, o, rfl, hat⟩ := H.out.atP hx
    have k11 := hat.c11
    have kl : k < l.length := (List.getElem?_eq_some_iff.1 hx).1
    have y0 : (0 : Int) ≤ (k : Int) := by omega
    have y1 : (k : Int) < (l.length : Int) := by omega
    clear h hk hat hx hf
    by_cases hv : 0 ≤ ver
    · by_cases he : x.ver = ver
      · have R2 := Lib.hid (show oldE l s ver = 0 from by rw [R.out, if_neg (fun h => h.2 he)])
        rw [he] at k11
        clear he
        go_enter Try.func52, Try.ntmps52
        go_wp2_with fail
        with_reducible refine FS.out.mono ?_
        rintro e w1 ⟨rfl, rfl⟩
        go_wp2_with fail
        go_ret
        exact ⟨by rw [R2.out]; rfl, rfl⟩
      · have R2 := Lib.hid (show oldE l s ver = 14 from by rw [R.out, if_pos ⟨hv, he⟩])
        have ne : (x.ver == ver) = false := beq_false_of_ne he
        have ne' : (x.ver != ver) = true := by rw [bne, ne]; rfl
        clear he
        go_enter Try.func52, Try.ntmps52
        go_wp2_with fail
        with_reducible refine FS.out.mono ?_
        rintro e w1 ⟨rfl, rfl⟩
        go_wp2_with fail
        go_ret
        exact ⟨by rw [R2.out]; rfl, rfl⟩
    · have R2 := Lib.hid (show oldE l s ver = 0 from by rw [R.out, if_neg (fun h => hv h.1)])
      go_enter Try.func52, Try.ntmps52
      go_wp2_with fail
      with_reducible refine FS.out.mono ?_
      rintro e w1 ⟨rfl, rfl⟩
      go_wp2_with fail
      go_ret
      exact ⟨by rw [R2.out]; rfl, rfl⟩
set_option maxHeartbeats 16000000 in
set_option maxRecDepth 100000 in
theorem rlimit (l : List I12) (lv : Value) (h : IRow w l lv) (hr : RT l) (s : ByteArray) (v : V3) (ver : Int) :
    Calls Try.prog 20 #[lv, .string s, .agg #[.int .i64 v.c, .int .i64 v.m, .int .i64 v.p], .int .i64 ver] w (GrownI (limE l s v ver) (limL l s v) w) := by
  have H0 := Lib.hid h
  have HR := Lib.hid hr
  have hl : l.length ≤ 120 := hr.len
  obtain ⟨ao, cap, rfl⟩ := h.shape
  clear h hr
  have ML := Lib.hid (fun W => rmay_any W v)
  have RN := Lib.hid (fun W (E : Nat) => rno W E)
  have RO := Lib.hid (fun W (hW : Below w.heap.size w W) => rold W l (.slice ao l.length cap) (H0.out.below hW) s ver)
  have RCP := Lib.hid (fun W (hW : Below w.heap.size w W) => rcopied W l (.slice ao l.length cap) (H0.out.below hW) (by omega))
  have AE := Lib.hid (show limE l s v ver = if mayV v = false then 1 else if oldE l s ver ≠ 0 then oldE l s ver else if 9007199254740992 ≤ (itAt l s).ver then 4 else if leV (itAt l s).sub v = false then 12 else 0 from rfl)
  have AL := Lib.hid (show (w.alloc (.cells #[.int .i64 v.c, .int .i64 v.m, .int .i64 v.p] 24)).heap.size = w.heap.size + 1 from by show (w.heap.push _).size = _; exact Array.size_push ..)
  have B0 := Lib.hid (below_al (below_al (Below.refl w.heap.size w) (.cells #[.int .i64 v.c, .int .i64 v.m, .int .i64 v.p] 24)) (.cells #[.slice none 0 0, .int .i64 0] 38))
  have C0 := Lib.hid ((CBlk.new w v).al (.cells #[.slice none 0 0, .int .i64 0] 38))
  have G0 := Lib.hid (GBlk.new (w.alloc (.cells #[.int .i64 v.c, .int .i64 v.m, .int .i64 v.p] 24)) (.slice none 0 0) 0)
  rw [AL.out] at G0
  obtain ⟨v0, v1, v2, v3⟩ := C0.out.cells
  go_enter Try.func20, Try.ntmps20
  go_wp2_with fail
  cases hm : mayV v with
  | false =>
    simp only [hm] at ML
    have R := Lib.hid (show limE l s v ver = 1 by rw [AE.out, hm]; rfl)
    clear hm AE
    with_reducible refine (ML.out _).mono ?_
    rintro e2 w2 ⟨rfl, h2⟩
    have B2 := Lib.hid (below_tr B0.out h2)
    have G2 := Lib.hid (G0.out.below h2)
    clear h2 v0 v1 v2 v3
    go_wp2_with fail
    have RE := Lib.hid (fun W => (show Calls Try.prog 50 #[.int .i64 1] W (Made (.agg #[.slice none 0 0, .int .i64 1]) W) from RN.out W 1))
    with_reducible refine (RE.out _).mono ?_
    rintro e9 w9 ⟨rfl, h9⟩
    have B9 := Lib.hid (below_tr B2.out h9)
    have G9 := Lib.hid (G2.out.below h9)
    have f0 := G9.out.free 0
    have f1 := G9.out.free 1
    obtain ⟨c0, c1⟩ := G9.out.cells
    clear h9
    go_wp2_with fail
    have GF := Lib.hid (G9.out.set (.slice none 0 0) 1)
    obtain ⟨g0, g1⟩ := GF.out.cells
    exact bodyPost_ret (v := .agg #[.slice none 0 0, .int .i64 1]) (by simp [results, Try.results20, go_sem, g0, g1]) rfl ⟨_, by rw [R.out]; rfl, below_set2 B9.out (Nat.le_succ _) _ _, by rw [R.out]; exact IOwn_nil _ _⟩
  | true =>
    simp only [hm] at ML
    have MV := Lib.hid hm
    have AE2 := Lib.hid (show limE l s v ver = if oldE l s ver ≠ 0 then oldE l s ver else if 9007199254740992 ≤ (itAt l s).ver then 4 else if leV (itAt l s).sub v = false then 12 else 0 by rw [AE.out, hm]; rfl)
    clear hm AE
    with_reducible refine (ML.out _).mono ?_
    rintro e2 w2 ⟨rfl, h2⟩
    have B2 := Lib.hid (below_tr B0.out h2)
    have G2 := Lib.hid (G0.out.below h2)
    have C2 := Lib.hid (C0.out.below h2)
    clear h2 v0 v1 v2 v3 C0 G0
    go_wp2_with fail
    with_reducible refine (RO.out _ B2.out).mono ?_
    rintro e3 w3 ⟨rfl, rfl⟩
    by_cases hE : oldE l s ver = 0
    · have AE3 := Lib.hid (show limE l s v ver = if 9007199254740992 ≤ (itAt l s).ver then 4 else if leV (itAt l s).sub v = false then 12 else 0 by rw [AE2.out, if_neg (fun h => h hE)])
      obtain ⟨x, hx, ex⟩ := old_look hE
      rw [ex] at AE3
      rw [hE]
      clear hE AE2
      obtain ⟨k, hf, hk⟩ := find_at hx
      obtain ⟨xm, xn⟩ := look_name hx
      have kl : k < l.length := (List.getElem?_eq_some_iff.1 hk).1
      have y0 : (0 : Int) ≤ (k : Int) := by omega
      have y1 : (k : Int) < (l.length : Int) := by omega
      have HK := Lib.hid hk
      have LL := Lib.hid (show l.set k ⟨x.name, x.parent, v, x.own, x.sub, x.ver + 1⟩ = limL l s v from by
        have := set_map HR.out.srt.uq hk (g := limF s v) (fun y _ hy => by
          unfold limF
          rw [← xn, if_neg hy, if_neg hy])
        unfold limL
        rw [← this]
        congr 1
        unfold limF
        rw [if_pos xn, if_pos xn])
      have XB := (one_iff.1 (HR.out.one x xm)).2.2.2.2.1
      go_wp2_with fail
      with_reducible refine (RCP.out _ B2.out).mono ?_
      rintro e4 w4 ⟨ov, rfl, h4, o4⟩
      have B4 := Lib.hid (below_tr B2.out h4)
      have G4 := Lib.hid (G2.out.below h4)
      have C4 := Lib.hid (C2.out.below h4)
      have O4 := Lib.hid (show IOwn w4 w.heap.size l ov from own_lower0 o4 B2.out.size)
      obtain ⟨og, oc, rfl⟩ : ∃ og oc, ov = .slice (some ⟨og, 0, none⟩) l.length oc := by
        rcases o4.2 with ⟨-, h0⟩ | ⟨g, cap, cur, rfl, -⟩
        · omega
        · exact ⟨g, cap, rfl⟩
      have FN := Lib.hid (rfind w4 l (.slice (some ⟨og, 0, none⟩) l.length oc) (irow_of_own O4.out) s)
      rw [hf] at FN
      have OG := Lib.hid (show og ≠ w.heap.size + 1 from fun e => by
        have h5 := World.ownsRow.lt o4 og rfl
        have h6 := G2.out.lt
        omega)
      have OV := Lib.hid (show og ≠ w.heap.size from fun e => by
        have h5 := World.ownsRow.lt o4 og rfl
        have h6 := G2.out.lt
        omega)
      clear h4 o4 hx hk hf xm RCP RO ex
      obtain ⟨q0, q1, q2, q3, q4, q5, q6, q7, q8, q9, q10, q11⟩ := O4.out.at HK.out
      obtain ⟨v0, v1, v2, v3⟩ := C4.out.cells
      go_wp2_with fail
      with_reducible refine FN.out.mono ?_
      rintro e5 w5 ⟨rfl, rfl⟩
      by_cases hver : 9007199254740992 ≤ x.ver
      · have R := Lib.hid (show limE l s v ver = 4 by rw [AE3.out, if_pos hver])
        clear AE3 q0 q1 q5 q6 q7
        go_wp2_with fail
        have RE := Lib.hid (fun W => (show Calls Try.prog 50 #[.int .i64 4] W (Made (.agg #[.slice none 0 0, .int .i64 4]) W) from RN.out W 4))
        with_reducible refine (RE.out _).mono ?_
        rintro e9 w9 ⟨rfl, h9⟩
        have B9 := Lib.hid (below_tr B4.out h9)
        have G9 := Lib.hid (G4.out.below h9)
        have f0 := G9.out.free 0
        have f1 := G9.out.free 1
        obtain ⟨c0, c1⟩ := G9.out.cells
        clear h9
        go_wp2_with fail
        have GF := Lib.hid (G9.out.set (.slice none 0 0) 4)
        obtain ⟨g0, g1⟩ := GF.out.cells
        exact bodyPost_ret (v := .agg #[.slice none 0 0, .int .i64 4]) (by simp [results, Try.results20, go_sem, g0, g1]) rfl ⟨_, by rw [R.out]; rfl, below_set2 B9.out (Nat.le_succ _) _ _, by rw [R.out]; exact IOwn_nil _ _⟩
      · have AE4 := Lib.hid (show limE l s v ver = if leV x.sub v = false then 12 else 0 by rw [AE3.out, if_neg hver])
        have hver2 : x.ver < 9007199254740992 := by omega
        have LE := Lib.hid (fun W => rle_any W x.sub v)
        clear AE3 hver
        go_upto_region 10 with fail
        refine wp_region_mono (by kernel_rfl) (by kernel_rfl) ?_
        simp only [List.map_cons, List.map_nil, List.append_eq, List.cons_append, List.nil_append]
        repeat (first
          | (apply wpM_is
             · (intro us W hW hg K hK
                clear hg
                have d0 := hold hW q8
                have d1 := hold hW q9
                have d2 := hold hW q10
                have d3 := hold hW v0
                have d4 := hold hW v1
                have d5 := hold hW v2
                simp only [fillA]
                go_simp
                first
                | exact hK _ (Below.refl _ _)
                | ((with_reducible refine (LE.out _).mono ?_); rintro e w' ⟨rfl, hb⟩; exact hK _ hb))
             simp only [setD, List.set_cons_zero, List.set_cons_succ]))
        intro us W hW hg
        simp only [fillA]
        clear hg
        have BW := Lib.hid (below_tr B4.out hW)
        have GW := Lib.hid (G4.out.below hW)
        have OW := Lib.hid (show IOwn W w.heap.size l (.slice (some ⟨og, 0, none⟩) l.length oc) from own_below O4.out hW)
        have CW := Lib.hid (C4.out.below hW)
        clear hW q0 q1 q2 q3 q4 q5 q6 q7 q8 q9 q10 q11 v0 v1 v2 v3
        cases hle : leV x.sub v with
        | false =>
          have R := Lib.hid (show limE l s v ver = 12 by rw [AE4.out, if_pos hle])
          clear hle AE4
          go_wp2_with fail
          have RE := Lib.hid (fun W => (show Calls Try.prog 50 #[.int .i64 12] W (Made (.agg #[.slice none 0 0, .int .i64 12]) W) from RN.out W 12))
          with_reducible refine (RE.out _).mono ?_
          rintro e9 w9 ⟨rfl, h9⟩
          have B9 := Lib.hid (below_tr BW.out h9)
          have G9 := Lib.hid (GW.out.below h9)
          have f0 := G9.out.free 0
          have f1 := G9.out.free 1
          obtain ⟨c0, c1⟩ := G9.out.cells
          clear h9
          go_wp2_with fail
          have GF := Lib.hid (G9.out.set (.slice none 0 0) 12)
          obtain ⟨g0, g1⟩ := GF.out.cells
          exact bodyPost_ret (v := .agg #[.slice none 0 0, .int .i64 12]) (by simp [results, Try.results20, go_sem, g0, g1]) rfl ⟨_, by rw [R.out]; rfl, below_set2 B9.out (Nat.le_succ _) _ _, by rw [R.out]; exact IOwn_nil _ _⟩
        | true =>
          have R := Lib.hid (show limE l s v ver = 0 by rw [AE4.out, if_neg (by rw [hle]; decide)])
          clear hle AE4
          obtain ⟨v0, v1, v2, v3⟩ := CW.out.cells
          obtain ⟨q0, q1, q2, q3, q4, q5, q6, q7, q8, q9, q10, q11⟩ := OW.out.at HK.out
          have fz2 := OW.out.frz (k * 12 + 2)
          have fz3 := OW.out.frz (k * 12 + 3)
          have fz4 := OW.out.frz (k * 12 + 4)
          have LB := Lib.hid (iblk_at OW.out).1
          clear q0 q1 q5 q6 q7 q8 q9 q10
          have O2 := Lib.hid (show IOwn (((W.setCell ⟨og, k * 12 + 2, none⟩ (.int .i64 v.c)).setCell ⟨og, k * 12 + 2 + 1, none⟩ (.int .i64 v.m)).setCell ⟨og, k * 12 + 2 + 2, none⟩ (.int .i64 v.p)) w.heap.size (l.set k ⟨x.name, x.parent, v, x.own, x.sub, x.ver⟩) (.slice (some ⟨og, 0, none⟩) l.length oc) from
            OW.out.set3 HK.out (y := ⟨x.name, x.parent, v, x.own, x.sub, x.ver⟩) 2 (by decide) (.int .i64 v.c) (.int .i64 v.m) (.int .i64 v.p) rfl)
          have B5 := Lib.hid (show Below w.heap.size w (((W.setCell ⟨og, k * 12 + 2, none⟩ (.int .i64 v.c)).setCell ⟨og, k * 12 + 2 + 1, none⟩ (.int .i64 v.m)).setCell ⟨og, k * 12 + 2 + 2, none⟩ (.int .i64 v.p)) from ((BW.out.setCell (by exact LB.out) _).setCell (by exact LB.out) _).setCell (by exact LB.out) _)
          have G5 := Lib.hid (show GBlk (((W.setCell ⟨og, k * 12 + 2, none⟩ (.int .i64 v.c)).setCell ⟨og, k * 12 + 2 + 1, none⟩ (.int .i64 v.m)).setCell ⟨og, k * 12 + 2 + 2, none⟩ (.int .i64 v.p)) (w.heap.size + 1) (.slice none 0 0) 0 from (heap_set3 W og _ _ _ _ _ _ OG.out.symm).trans GW.out)
          go_upto_region 13 with fail
          generalize ((W.setCell ⟨og, k * 12 + 2, none⟩ (.int .i64 v.c)).setCell ⟨og, k * 12 + 2 + 1, none⟩ (.int .i64 v.m)).setCell ⟨og, k * 12 + 2 + 2, none⟩ (.int .i64 v.p) = W2 at *
          have HK2 := Lib.hid (show (l.set k ⟨x.name, x.parent, v, x.own, x.sub, x.ver⟩)[k]? = some ⟨x.name, x.parent, v, x.own, x.sub, x.ver⟩ from by rw [List.getElem?_set, if_pos rfl, if_pos kl])
          have r11 := (O2.out.at HK2.out).c11
          have fz11 := O2.out.frz (k * 12 + 11)
          have wv : IntKind.i64.wrap (x.ver + 1) = x.ver + 1 := by rw [IntKind.wrap_i64]; omega
          have O3 := Lib.hid (show IOwn (W2.setCell ⟨og, k * 12 + 11, none⟩ (.int .i64 (x.ver + 1))) w.heap.size (limL l s v) (.slice (some ⟨og, 0, none⟩) l.length oc) from by
            have := O2.out.set1 HK2.out (y := ⟨x.name, x.parent, v, x.own, x.sub, x.ver + 1⟩) 11 (by decide) (.int .i64 (x.ver + 1)) rfl
            rw [List.set_set, LL.out] at this
            exact this)
          have B6 := Lib.hid (show Below w.heap.size w (W2.setCell ⟨og, k * 12 + 11, none⟩ (.int .i64 (x.ver + 1))) from B5.out.setCell (by exact LB.out) _)
          have G6 := Lib.hid (show GBlk (W2.setCell ⟨og, k * 12 + 11, none⟩ (.int .i64 (x.ver + 1))) (w.heap.size + 1) (.slice none 0 0) 0 from (heap_setCell_other W2 ⟨og, k * 12 + 11, none⟩ (w.heap.size + 1) _ OG.out.symm).trans G5.out)
          clear q2 q3 q4 q11 fz2 fz3 fz4 v0 v1 v2 v3 XB
          go_upto_region 14 with fail
          generalize W2.setCell ⟨og, k * 12 + 11, none⟩ (.int .i64 (x.ver + 1)) = W3 at *
          have f0 := G6.out.free 0
          have f1 := G6.out.free 1
          obtain ⟨c0, c1⟩ := G6.out.cells
          go_wp2_with fail
          have GF := Lib.hid (G6.out.set (.slice (some ⟨og, 0, none⟩) l.length oc) 0)
          have OF := Lib.hid (O3.out.far (O3.out.apart G6.out) (.slice (some ⟨og, 0, none⟩) l.length oc) (.int .i64 0))
          obtain ⟨g0, g1⟩ := GF.out.cells
          exact bodyPost_ret (v := .agg #[.slice (some ⟨og, 0, none⟩) l.length oc, .int .i64 0]) (by simp [results, Try.results20, go_sem, g0, g1]) rfl ⟨_, by rw [R.out]; rfl, below_set2 B6.out (Nat.le_succ _) _ _, by rw [R.out, if_pos rfl]; exact OF.out⟩
    · have R := Lib.hid (show limE l s v ver = oldE l s ver by rw [AE2.out, if_pos hE])
      generalize oldE l s ver = E at *
      have NE := hE
      have ne : ((E : Int) != 0) = true := by
        rw [bne, beq_false_of_ne (by omega)]; rfl
      have ne2 : ((E : Int) == 0) = false := beq_false_of_ne (by omega)
      clear hE AE2
      go_wp2_with fail
      have RE := Lib.hid (fun W => (show Calls Try.prog 50 #[.int .i64 (E : Int)] W (Made (.agg #[.slice none 0 0, .int .i64 (E : Int)]) W) from RN.out W E))
      with_reducible refine (RE.out _).mono ?_
      rintro e9 w9 ⟨rfl, h9⟩
      have B9 := Lib.hid (below_tr B2.out h9)
      have G9 := Lib.hid (G2.out.below h9)
      have f0 := G9.out.free 0
      have f1 := G9.out.free 1
      obtain ⟨c0, c1⟩ := G9.out.cells
      clear h9
      go_wp2_with fail
      have GF := Lib.hid (G9.out.set (.slice none 0 0) (E : Int))
      obtain ⟨g0, g1⟩ := GF.out.cells
      exact bodyPost_ret (v := .agg #[.slice none 0 0, .int .i64 (E : Int)]) (by simp [results, Try.results20, go_sem, g0, g1]) rfl ⟨_, by rw [R.out], below_set2 B9.out (Nat.le_succ _) _ _, by rw [R.out]; exact by rw [if_neg NE]; exact IOwn_nil _ _⟩
end
end Go.Proofs.Ytmpakgabehplbaa
