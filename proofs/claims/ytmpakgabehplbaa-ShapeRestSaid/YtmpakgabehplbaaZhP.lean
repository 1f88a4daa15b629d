/- Package shape: room. -/
import Derived.Test.YtmpakgabehplbaaZhO
import Derived.Test.YtmpakgabehplbaaVecN
namespace Go.Proofs.Ytmpakgabehplbaa
open Go.RowKit
set_option linter.unusedVariables false
set_option linter.unusedSimpArgs false
def badP (l : List I12) (v : V3) (ps : List Nat) : Int := match ps.findIdx? (fun j => !fitsP l v j) with | some k => (k : Int) | none => -1
theorem badP_all (l : List I12) (v : V3) (ps : List Nat) : decide (0 ≤ badP l v ps) = !ps.all (fitsP l v) := by
  unfold badP
  cases h : ps.findIdx? (fun j => !fitsP l v j) with
  | none =>
    rw [List.findIdx?_eq_none_iff] at h
    have : ps.all (fitsP l v) = true := List.all_eq_true.2 fun j hj => by simpa using h j hj
    rw [this]; rfl
  | some k =>
    obtain ⟨hk, h1, -⟩ := List.findIdx?_eq_some_iff_getElem.1 h
    have : ps.all (fitsP l v) = false := by
      rw [List.all_eq_false]
      exact ⟨ps[k], List.getElem_mem hk, by simpa using h1⟩
    rw [this]
    show decide ((0 : Int) ≤ (k : Int)) = true
    exact decide_eq_true (by omega)
section
variable (w : World)
set_option maxHeartbeats 16000000 in
set_option maxRecDepth 100000 in
theorem pfitF (l : List I12) (g cap k b : Nat) (fv tv : Value) (x : I12) (B0 : Nat) (ho : IOwn w B0 l (.slice (some ⟨g, 0, none⟩) l.length cap)) (hM : MvB w b (.slice (some ⟨g, 0, none⟩) l.length cap) (.int .i64 (k : Int)) fv tv) (hk : l[k]? = some x) (hm : ∀ y ∈ l, mayV y.sub = true) (z : Nat) (y : I12) (hz : l[z]? = some y) :
    Calls Try.prog 69 #[.int .i64 (z : Int), .pointer (some ⟨b, 0, none⟩)] w (Made (.bool (!fitsP l x.sub z)) w) := by
  have FZ : fitsP l x.sub z = leV (addV y.sub x.sub) y.lim := by unfold fitsP; rw [hz]
  rw [FZ]
  have zl : z < l.length := (List.getElem?_eq_some_iff.1 hz).1
  have kl : k < l.length := (List.getElem?_eq_some_iff.1 hk).1
  have AD := Lib.hid (show ∀ W lv, VRow W [y.sub, x.sub] lv → Calls Try.prog 70 #[lv] W (Made (.agg #[.int .i64 (addV y.sub x.sub).c, .int .i64 (addV y.sub x.sub).m, .int .i64 (addV y.sub x.sub).p]) W) from fun W lv hr => by
    have := vadd_any W [y.sub, x.sub] lv hr (by simp) (by
      have h1 := may_bounds (hm y (List.mem_of_getElem? hz))
      have h2 := may_bounds (hm x (List.mem_of_getElem? hk))
      simp only [List.mem_cons, List.not_mem_nil, or_false]
      rintro u (rfl | rfl)
      · unfold V3.Upto; omega
      · unfold V3.Upto; omega)
    rwa [two_sum] at this)
  have LE := Lib.hid (fun W => vle_any W (addV y.sub x.sub) y.lim)
  have PN := Lib.hid (fun W => pone W g l.length cap k kl)
  obtain ⟨-, AY⟩ := own_at12 ho hz
  obtain ⟨-, AX⟩ := own_at12 ho hk
  obtain ⟨b0, b1, b2, b3⟩ := hM.cells
  have q2 := AY.c2
  have q3 := AY.c3
  have q4 := AY.c4
  have q8 := AY.c8
  have q9 := AY.c9
  have q10 := AY.c10
  have r8 := AX.c8
  have r9 := AX.c9
  have r10 := AX.c10
  have y0 : (0 : Int) ≤ (z : Int) := by omega
  have y1 : (z : Int) < (l.length : Int) := by omega
  generalize leV (addV y.sub x.sub) y.lim = qq at *
  clear ho hM hk hm hz AY AX FZ
  go_enter Try.func69, Try.ntmps69
  go_upto_region 1 with fail
  refine wp_region_mono (by kernel_rfl) (by kernel_rfl) ?_
  simp only [List.map_cons, List.map_nil]
  repeat (first
    | (apply wpM_is
       · (intro us W hW hg K hK
          clear hg
          have d0 := hold hW b0
          have d1 := hold hW b1
          have e2 := hold hW q2
          have e3 := hold hW q3
          have e4 := hold hW q4
          have e8 := hold hW q8
          have e9 := hold hW q9
          have e10 := hold hW q10
          have f8 := hold hW r8
          have f9 := hold hW r9
          have f10 := hold hW r10
          simp only [fillA]
          go_simp
          first
          | exact hK _ (Below.refl _ _)
          | ((with_reducible refine (PN.out _).mono ?_); rintro e w' ⟨rfl, hb⟩; exact hK _ hb))
       simp only [setD, List.set_cons_zero, List.set_cons_succ]))
  refine wpM_any (fun u W => VRow W [y.sub, x.sub] u) (fun u W W' h hb => h.below hb) ?_ ?_
  · intro us W hW hg K hK
    clear hg
    simp only [fillA]
    go_simp
    exact hK _ _ (vrow_new [y.sub, x.sub] (heap_alloc_new _ _)) (below_al (Below.refl _ _) _)
  simp only [setD, List.set_cons_zero, List.set_cons_succ]
  apply wpM_is
  · intro us W hW hg K hK
    have h0 := hg 17 (List.elem_iff.1 (by kernel_rfl)) _ rfl
    clear hg
    simp only [fillA]
    go_simp
    (with_reducible refine (AD.out _ _ h0).mono ?_)
    rintro e w' ⟨rfl, hb⟩
    exact hK _ hb
  simp only [setD, List.set_cons_zero, List.set_cons_succ]
  repeat (first
    | (apply wpM_is
       · (intro us W hW hg K hK
          clear hg
          have d0 := hold hW b0
          have d1 := hold hW b1
          have e2 := hold hW q2
          have e3 := hold hW q3
          have e4 := hold hW q4
          have e8 := hold hW q8
          have e9 := hold hW q9
          have e10 := hold hW q10
          have f8 := hold hW r8
          have f9 := hold hW r9
          have f10 := hold hW r10
          simp only [fillA]
          go_simp
          first
          | exact hK _ (Below.refl _ _)
          | ((with_reducible refine (LE.out _).mono ?_); rintro e w' ⟨rfl, hb⟩; exact hK _ hb))
       simp only [setD, List.set_cons_zero, List.set_cons_succ]))
  intro us W hW hg
  simp only [fillA]
  clear hg
  have BW := Lib.hid hW
  clear hW b0 b1 b2 b3 q2 q3 q4 q8 q9 q10 r8 r9 r10
  go_wp2_with fail
  go_ret
  exact ⟨rfl, BW.out⟩
set_option maxHeartbeats 8000000 in
set_option maxRecDepth 20000 in
theorem pindexP (l : List I12) (g cap k b : Nat) (fv tv : Value) (x : I12) (B0 : Nat) (ho : IOwn w B0 l (.slice (some ⟨g, 0, none⟩) l.length cap)) (hM : MvB w b (.slice (some ⟨g, 0, none⟩) l.length cap) (.int .i64 (k : Int)) fv tv) (hk : l[k]? = some x) (hm : ∀ y ∈ l, mayV y.sub = true) (B : Nat) (ps : List Nat) (pv : Value) (hp : w.ownsRow B 3 1 pv ps.length (natC ps)) (hl : ps.length ≤ 1000) (hj : ∀ j ∈ ps, j < l.length) :
    Calls Try.prog 79 #[pv, .func (.func 69) #[] #[.pointer (some ⟨b, 0, none⟩)]] w (Made (.int .i64 (badP l x.sub ps)) w) := by
  have PF := Lib.hid (fun W (hW : Below w.heap.size w W) j y hy => pfitF W l g cap k b fv tv x B0 (own_below ho hW) (hM.below hW) hk hm j y hy)
  have HP := Lib.hid hp
  have HJ := Lib.hid hj
  obtain ⟨po, pc, rfl⟩ := own_shape hp
  clear ho hM hk hm hp hj
  go_enter Try.func79, Try.ntmps79
  go_wp2_with fail
  go_loopg [8] ps.length (fun m kv wr => ∃ q : Nat, kv = .int .i64 (q : Int) ∧ ps.length - q ≤ m ∧ q ≤ ps.length ∧ Below w.heap.size w wr ∧ Hid (∀ j y, j < q → ps[j]? = some y → fitsP l x.sub y = true))
  case atStart => exact ⟨0, rfl, Nat.le_refl _, Nat.zero_le _, Below.refl _ _, Lib.hid (fun j y hj => by omega)⟩
  case round =>
    obtain ⟨q, rfl, hm, hkq, hb, OK⟩ := hrel
    have HM := Lib.hid hm
    have BR := Lib.hid hb
    clear hm hb
    by_cases hlt : q < ps.length
    · obtain ⟨j, hu⟩ : ∃ j, ps[q]? = some j := ⟨_, List.getElem?_eq_getElem hlt⟩
      have HU := Lib.hid hu
      obtain ⟨y, hy⟩ : ∃ y, l[j]? = some y := ⟨_, List.getElem?_eq_getElem (HJ.out j (List.mem_of_getElem? hu))⟩
      obtain ⟨gp, rfl, c0⟩ := own_cell (own_below HP.out BR.out) hu
      have PF1 := Lib.hid (PF.out wr BR.out j y hy)
      have x0 : (0 : Int) ≤ (q : Int) := by omega
      have x1 : (q : Int) < (ps.length : Int) := by omega
      clear hu hy
      cases hq : fitsP l x.sub j with
      | false =>
        have R := Lib.hid (show badP l x.sub ps = (q : Int) from by
          unfold badP
          rw [show ps.findIdx? (fun j => !fitsP l x.sub j) = some q from by
            rw [List.findIdx?_eq_some_iff_getElem]
            obtain ⟨h1, h2⟩ := List.getElem?_eq_some_iff.1 HU.out
            refine ⟨h1, by rw [h2, hq]; rfl, fun j hj => ?_⟩
            simp [OK.out j _ hj (List.getElem?_eq_getElem (by omega))]])
        rw [hq] at PF1
        clear hq OK
        go_wp2_with fail
        with_reducible refine PF1.out.mono ?_
        rintro e w1 ⟨rfl, hb⟩
        have B1 := Lib.hid (below_tr BR.out hb)
        clear hb
        go_wp2_with fail
        go_ret
        exact ⟨by rw [R.out]; rfl, B1.out⟩
      | true =>
        have NX := Lib.hid (show ∀ i y, i < q + 1 → ps[i]? = some y → fitsP l x.sub y = true from fun i y hi hy => by
          by_cases e : i = q
          · subst e
            obtain rfl : j = y := Option.some.inj (HU.out.symm.trans hy)
            exact hq
          · exact OK.out i y (by omega) hy)
        rw [hq] at PF1
        clear hq OK
        go_wp2_with fail
        with_reducible refine PF1.out.mono ?_
        rintro e w1 ⟨rfl, hb⟩
        have B1 := Lib.hid (below_tr BR.out hb)
        clear hb
        go_wp2_with fail
        go_roundg (ps.length - (q + 1))
        case rel => exact ⟨q + 1, by go_num, Nat.le_refl _, hlt, B1.out, NX⟩
        case measure => have := HM.out; omega
    · obtain rfl : q = ps.length := by omega
      have R := Lib.hid (show badP l x.sub ps = -1 from by
        unfold badP
        rw [show ps.findIdx? (fun j => !fitsP l x.sub j) = none from by
          rw [List.findIdx?_eq_none_iff]
          intro x hx
          obtain ⟨j, hj, rfl⟩ := List.mem_iff_getElem.1 hx
          rw [OK.out j _ hj (List.getElem?_eq_getElem hj)]; rfl])
      go_wp2_with fail
      go_ret
      exact ⟨by rw [R.out]; rfl, BR.out⟩
set_option maxHeartbeats 8000000 in
set_option maxRecDepth 20000 in
theorem pcontP (l : List I12) (g cap k b : Nat) (fv tv : Value) (x : I12) (B0 : Nat) (ho : IOwn w B0 l (.slice (some ⟨g, 0, none⟩) l.length cap)) (hM : MvB w b (.slice (some ⟨g, 0, none⟩) l.length cap) (.int .i64 (k : Int)) fv tv) (hk : l[k]? = some x) (hm : ∀ y ∈ l, mayV y.sub = true) (B : Nat) (ps : List Nat) (pv : Value) (hp : w.ownsRow B 3 1 pv ps.length (natC ps)) (hl : ps.length ≤ 1000) (hj : ∀ j ∈ ps, j < l.length) :
    Calls Try.prog 68 #[pv, .func (.func 69) #[] #[.pointer (some ⟨b, 0, none⟩)]] w (Made (.bool (!ps.all (fitsP l x.sub))) w) := by
  have PI := Lib.hid (pindexP w l g cap k b fv tv x B0 ho hM hk hm B ps pv hp hl hj)
  obtain ⟨po, pc, rfl⟩ := own_shape hp
  have R := Lib.hid (badP_all l x.sub ps)
  generalize badP l x.sub ps = r at *
  generalize ps.all (fitsP l x.sub) = qa at *
  clear ho hM hk hm hp hj
  have D : ∀ b : Bool, decide (0 ≤ r) = b → decide (0 ≤ r) = b := fun b hb => hb
  have D2 := D _ R.out
  clear D
  go_enter Try.func68, Try.ntmps68
  go_wp2_with fail
  with_reducible refine PI.out.mono ?_
  rintro e w1 ⟨rfl, hb⟩
  have B1 := Lib.hid hb
  clear hb
  go_wp2_with fail
  go_ret
  exact ⟨rfl, B1.out⟩
set_option maxHeartbeats 8000000 in
set_option maxRecDepth 20000 in
theorem pmroom (l : List I12) (g cap k : Nat) (fv tv : Value) (x : I12) (B0 : Nat) (ho : IOwn w B0 l (.slice (some ⟨g, 0, none⟩) l.length cap)) (hk : l[k]? = some x) (hm : ∀ y ∈ l, mayV y.sub = true) (B : Nat) (ps : List Nat) (hp : NatO w B tv ps) (hl : ps.length ≤ 1000) (hj : ∀ j ∈ ps, j < l.length) :
    Calls Try.prog 46 #[.agg #[.slice (some ⟨g, 0, none⟩) l.length cap, .int .i64 (k : Int), fv, tv]] w (Made (.bool (ps.all (fitsP l x.sub))) w) := by
  have BX := Lib.hid (below_al (Below.refl w.heap.size w) (.cells #[.slice (some ⟨g, 0, none⟩) l.length cap, .int .i64 (k : Int), fv, tv] 76))
  have D0 := Lib.hid (MvB.new w (.slice (some ⟨g, 0, none⟩) l.length cap) (.int .i64 (k : Int)) fv tv)
  have CF := Lib.hid (pcontP _ l g cap k w.heap.size fv tv x B0 (own_below ho BX.out) D0.out hk hm B ps tv (NatO.below hp BX.out) hl hj)
  obtain ⟨po, pc, rfl⟩ := own_shape hp
  obtain ⟨b0, b1, b2, b3⟩ := D0.out.cells
  have hmf : ∀ (fn : Fn) (first cap : Array Value) (w : World), (Instr.makeFunc fn first cap).run Try.prog w = .ok (.func fn first cap) w := fun _ _ _ _ => rfl
  generalize ps.all (fitsP l x.sub) = q at *
  clear ho hk hm hp hj
  go_enter Try.func46, Try.ntmps46
  go_wp2_with fail
  with_reducible refine CF.out.mono ?_
  rintro e w1 ⟨rfl, hb⟩
  have B1 := Lib.hid (below_tr BX.out hb)
  clear hb b0 b1 b2 b3
  go_wp2_with fail
  go_ret
  exact ⟨by simp, B1.out⟩
end
end Go.Proofs.Ytmpakgabehplbaa
