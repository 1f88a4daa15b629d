/- Package room: the least on a way up. -/
import Derived.Test.YtffmmoligdoclaaRmV
namespace Go.Proofs.Ytffmmoligdoclaa
open Go.RowKit
set_option linter.unusedVariables false
set_option linter.unusedSimpArgs false
def leastF (v : V3) (ws : List I12) : V3 := ws.foldl (fun v y => minV v (freeV y)) v
def leastL : List I12 → V3
  | [] => z3
  | x :: r => leastF (freeV x) r
theorem leastF_step {v : V3} {r : List I12} {k : Nat} {y : I12} (h : r[k]? = some y) : leastF v (r.take (k + 1)) = minV (leastF v (r.take k)) (freeV y) := by
  unfold leastF
  rw [List.take_add_one, h, List.foldl_append]
  rfl
theorem leastF_room {l : List I12} : ∀ {us : List ByteArray} (v : V3), (∀ t ∈ us, ∃ x, look l t = some x) → leastF v (wayL l us) = roomF l v us
  | [], v, _ => rfl
  | t :: r, v, h => by
    obtain ⟨x, hx⟩ := h t List.mem_cons_self
    have e : wayL l (t :: r) = x :: wayL l r := by unfold wayL; rw [List.filterMap_cons, hx]
    have ih := leastF_room (l := l) (us := r) (minV v (freeV x)) (fun t ht => h t (List.mem_cons_of_mem _ ht))
    rw [e]
    show leastF (minV v (freeV x)) (wayL l r) = roomF l (minV v (freeA l t)) r
    rw [ih, freeA_at hx]
theorem least_room {l : List I12} {us : List ByteArray} (h : ∀ t ∈ us, ∃ x, look l t = some x) : leastL (wayL l us) = roomU l us := by
  cases us with
  | nil => rfl
  | cons t r =>
    obtain ⟨x, hx⟩ := h t List.mem_cons_self
    have e : wayL l (t :: r) = x :: wayL l r := by unfold wayL; rw [List.filterMap_cons, hx]
    rw [e]
    show leastF (freeV x) (wayL l r) = roomF l (freeA l t) r
    rw [leastF_room _ (fun t ht => h t (List.mem_cons_of_mem _ ht)), freeA_at hx]
/-- The block of a way with its least. -/
def NwBlk (w : World) (g : Nat) (v : Value) (u : V3) : Prop := w.heap[g]? = some (.cells #[v, .int .i64 u.c, .int .i64 u.m, .int .i64 u.p] 54 (0, 0))
theorem NwBlk.lt {w : World} {g : Nat} {v : Value} {u : V3} (h : NwBlk w g v u) : g < w.heap.size := (Array.getElem?_eq_some_iff.1 h).1
theorem NwBlk.cells {w : World} {g : Nat} {v : Value} {u : V3} (h : NwBlk w g v u) : w.cell? ⟨g, 0, none⟩ = some v ∧ w.cell? ⟨g, 1, none⟩ = some (.int .i64 u.c) ∧ w.cell? ⟨g, 2, none⟩ = some (.int .i64 u.m) ∧ w.cell? ⟨g, 3, none⟩ = some (.int .i64 u.p) :=
  ⟨(cell_of_row _ _ 0 _ _ _ h).trans rfl, (cell_of_row _ _ 1 _ _ _ h).trans rfl, (cell_of_row _ _ 2 _ _ _ h).trans rfl, (cell_of_row _ _ 3 _ _ _ h).trans rfl⟩
theorem NwBlk.below {w w' : World} {g : Nat} {v : Value} {u : V3} (h : NwBlk w g v u) (hb : Below w.heap.size w w') : NwBlk w' g v u := (hb.block g h.lt).trans h
theorem NwBlk.new (w : World) (v : Value) (u : V3) : NwBlk (w.alloc (.cells #[v, .int .i64 u.c, .int .i64 u.m, .int .i64 u.p] 54)) w.heap.size v u := heap_alloc_new w _
theorem NwBlk.free {w : World} {g : Nat} {v : Value} {u : V3} (h : NwBlk w g v u) (o : Nat) : w.frozen? ⟨g, o, none⟩ = false := by
  unfold NwBlk at h
  simp [World.frozen?, h]
theorem NwBlk.set {w : World} {g : Nat} {v : Value} {u : V3} (h : NwBlk w g v u) (v' : Value) (u' : V3) : NwBlk ((((w.setCell ⟨g, 0, none⟩ v').setCell ⟨g, 1, none⟩ (.int .i64 u'.c)).setCell ⟨g, 2, none⟩ (.int .i64 u'.m)).setCell ⟨g, 3, none⟩ (.int .i64 u'.p)) g v' u' := by
  have h0 := heap_setCell_same w g 0 _ _ v' h
  have h1 := heap_setCell_same _ g 1 _ _ (.int .i64 u'.c) h0
  have h2 := heap_setCell_same _ g 2 _ _ (.int .i64 u'.m) h1
  exact heap_setCell_same _ g 3 _ _ (.int .i64 u'.p) h2
theorem NwBlk.far {w : World} {g f : Nat} {v : Value} {u : V3} (h : NwBlk w g v u) (hf : g ≠ f) (a b c : Value) : NwBlk (((w.setCell ⟨f, 0, none⟩ a).setCell ⟨f, 1, none⟩ b).setCell ⟨f, 2, none⟩ c) g v u := by
  unfold NwBlk
  rw [heap_set3 w f 0 1 2 a b c hf]; exact h
theorem below_set4' {B : Nat} {w W : World} (h : Below B w W) {g : Nat} (hg : B ≤ g) (v0 v1 v2 v3 : Value) : Below B w ((((W.setCell ⟨g, 0, none⟩ v0).setCell ⟨g, 1, none⟩ v1).setCell ⟨g, 2, none⟩ v2).setCell ⟨g, 3, none⟩ v3) := (((h.setCell hg _).setCell hg _).setCell hg _).setCell hg _
theorem IRow.at0 {w : World} {l : List I12} {ao : Option Addr} {cap : Nat} (h : IRow w l (.slice ao l.length cap)) {k : Nat} {x : I12} (hx : l[k]? = some x) : ∃ g o, ao = some ⟨g, o, none⟩ ∧ I12At w g (o + k * 12) x := by
  obtain ⟨_, _, e9, _, _, h9⟩ := h
  simp only [Value.slice.injEq, true_and] at e9
  obtain ⟨rfl, rfl⟩ := e9
  exact h9 k x hx
section
variable (w : World)
set_option maxHeartbeats 8000000 in
set_option maxRecDepth 20000 in
theorem pnarrowed (ws : List I12) (wv : Value) (h : IRow w ws wv) (hl : ws.length ≤ 1000) (hf : ∀ x ∈ ws, FitV (freeV x)) :
    Calls Try.prog 29 #[wv] w fun e w' => ∃ wv', e = .returned (.agg #[wv', .int .i64 (leastL ws).c, .int .i64 (leastL ws).m, .int .i64 (leastL ws).p]) ∧ Below w.heap.size w w' ∧ IRow w' ws wv' := by
  have BX := Lib.hid (below_al (Below.refl w.heap.size w) (.cells #[.slice none 0 0, .int .i64 0, .int .i64 0, .int .i64 0] 54))
  have T0 := Lib.hid (NwBlk.new w (.slice none 0 0) z3)
  simp only [z3] at T0
  have H := Lib.hid h
  obtain ⟨ao, cap, rfl⟩ := h.shape
  clear h
  cases ws with
  | nil =>
    clear hl hf
    obtain ⟨e0, e1, e2, e3⟩ := T0.out.cells
    have f0 := T0.out.free 0
    have f1 := T0.out.free 1
    have f2 := T0.out.free 2
    have f3 := T0.out.free 3
    go_enter Try.func29, Try.ntmps29
    go_wp2_with fail
    exact bodyPost_ret (v := .agg #[.slice none 0 0, .int .i64 0, .int .i64 0, .int .i64 0]) (by simp [results, Try.results29, go_sem, e0, e1, e2, e3]) rfl ⟨.slice none 0 0, rfl, BX.out, IRow.nil _⟩
  | cons x r =>
    have rl : r.length ≤ 1000 := by simp at hl; omega
    have HF := Lib.hid hf
    have FX := hf x List.mem_cons_self
    have LX := Lib.hid (fun W => pleft W x (by unfold FitV at FX; unfold V3.I; omega))
    unfold I12.val I12.cells at LX
    have FV := Lib.hid (show leastL (x :: r) = leastF (freeV x) (r.take r.length) from by rw [List.take_length]; rfl)
    have ne : (((x :: r).length : Int) == 0) = false := beq_false_of_ne (by simp; omega)
    have up0 : (0 : Int) < ((x :: r).length : Int) := by rw [List.length_cons]; omega
    have gq : 1 ≤ (x :: r).length := by simp
    have RL := Lib.hid (show (x :: r).length - 1 = r.length from rfl)
    obtain ⟨so, hso⟩ : ∃ so, (if cap = 1 then ao else ao.map (·.add (1 * 12))) = so := ⟨_, rfl⟩
    have SD := Lib.hid (show ∀ W, Below w.heap.size w W → IRow W r (.slice so r.length (cap - 1)) from fun W hW => by
      have := (H.out.below hW).drop 1 gq
      rw [show sliced ao 1 (x :: r).length cap 12 = .slice so ((x :: r).length - 1) (cap - 1) by unfold sliced; rw [hso]] at this
      exact this)
    have SL : ∀ W, (Instr.slice 52 (.slice ao (x :: r).length cap) (some (.int .i64 1)) none none).run Try.prog W = .ok (.slice so r.length (cap - 1)) W := fun W => by
      have e1 : Try.prog.elem 52 = 40 := by kernel_rfl
      have := run_slice_l (P := Try.prog) W 52 ao (x :: r).length cap (by rw [e1]; exact Try.underlying52) .i64 1 (by omega) (by simp; omega)
      rw [show (sizeOf (Try.prog.elem 52)).run Try.prog W = .ok 12 W from by kernel_rfl] at this
      rw [this]
      show Result.ok (sliced ao 1 (x :: r).length cap 12) W = _
      unfold sliced; rw [hso]; rfl
    obtain ⟨xg, xo, eo, XA⟩ := H.out.at0 (show (x :: r)[0]? = some x from rfl)
    subst eo
    rw [Nat.zero_mul, Nat.add_zero] at XA
    obtain ⟨k0, k1, k2, k3, k4, k5, k6, k7, k8, k9, k10, k11⟩ := XA.below (below_al (Below.refl w.heap.size w) (.cells #[.slice none 0 0, .int .i64 0, .int .i64 0, .int .i64 0] 54))
    obtain ⟨fx, hfx⟩ : ∃ fx, fx = freeV x := ⟨_, rfl⟩
    rw [← hfx] at LX FV
    generalize leastL (x :: r) = lv at *
    generalize hn : (x :: r).length = n at *
    clear XA hso hf FX hfx hn
    go_enter Try.func29, Try.ntmps29
    go_wp2_with fail
    with_reducible refine (LX.out _).mono ?_
    rintro e w1 ⟨rfl, hb1⟩
    have B1 := Lib.hid (below_tr BX.out hb1)
    have T1 := Lib.hid (show NwBlk w1 w.heap.size (.slice none 0 0) z3 from T0.out.below hb1)
    have NEV := Lib.hid (show w.heap.size ≠ w1.heap.size from by have := T1.out.lt; omega)
    have GEV := Lib.hid B1.out.size
    have V2 := Lib.hid (CBlk.new w1 fx)
    have B2 := Lib.hid (below_al B1.out (.cells #[.int .i64 fx.c, .int .i64 fx.m, .int .i64 fx.p] 27))
    have T2 := Lib.hid (T1.out.below (below_al (Below.refl w1.heap.size w1) (.cells #[.int .i64 fx.c, .int .i64 fx.m, .int .i64 fx.p] 27)))
    clear hb1 k0 k1 k2 k3 k4 k5 k6 k7 k8 k9 k10 k11
    go_wp2_with fail
    generalize w1.alloc (.cells #[.int .i64 fx.c, .int .i64 fx.m, .int .i64 fx.p] 27) = w2 at *
    generalize w1.heap.size = bv at *
    go_loopg [18] r.length (fun m iv wr => ∃ k : Nat, iv = .int .i64 (k : Int) ∧ r.length - k ≤ m ∧ k ≤ r.length ∧ Below w.heap.size w wr ∧ NwBlk wr w.heap.size (.slice none 0 0) z3 ∧ CBlk wr bv (leastF fx (r.take k)))
    case atStart => exact ⟨0, rfl, Nat.le_refl _, Nat.zero_le _, B2.out, T2.out, V2.out⟩
    case round =>
      obtain ⟨k, rfl, hm, hk, hb, ht, hv⟩ := hrel
      have HM := Lib.hid hm
      have BR := Lib.hid hb
      have TR := Lib.hid ht
      have VR := Lib.hid hv
      clear hm hb ht hv
      by_cases hlt : k < r.length
      · obtain ⟨y, hy⟩ : ∃ y, r[k]? = some y := ⟨_, List.getElem?_eq_getElem hlt⟩
        have ym := List.mem_of_getElem? hy
        have FY := HF.out y (List.mem_cons_of_mem _ ym)
        have LY := Lib.hid (fun W => pleft W y (by unfold FitV at FY; unfold V3.I; omega))
        unfold I12.val I12.cells at LY
        have RS := Lib.hid (leastF_step (v := fx) hy)
        obtain ⟨gx, ox, eo, YA⟩ := (SD.out wr BR.out).at0 hy
        obtain rfl := eo
        have YW := Lib.hid YA
        obtain ⟨k0, k1, k2, k3, k4, k5, k6, k7, k8, k9, k10, k11⟩ := YA
        have y0 : (0 : Int) ≤ (k : Int) := by omega
        have y1 : (k : Int) < (r.length : Int) := by omega
        generalize freeV y = f2 at *
        obtain ⟨v2, hv2⟩ : ∃ v2, v2 = leastF fx (r.take k) := ⟨_, rfl⟩
        rw [← hv2] at RS VR
        obtain ⟨M, hM⟩ : ∃ M, M = minV v2 f2 := ⟨_, rfl⟩
        rw [← hM] at RS
        have ma0 : (if f2.c < v2.c then f2.c else v2.c) = M.c := by rw [hM]; unfold minV; simp only; omega
        have ma1 : (if f2.m < v2.m then f2.m else v2.m) = M.m := by rw [hM]; unfold minV; simp only; omega
        have ma2 : (if f2.p < v2.p then f2.p else v2.p) = M.p := by rw [hM]; unfold minV; simp only; omega
        have mb0 : (if v2.c ≤ f2.c then v2.c else f2.c) = M.c := by rw [hM]; unfold minV; simp only; omega
        have mb1 : (if v2.m ≤ f2.m then v2.m else f2.m) = M.m := by rw [hM]; unfold minV; simp only; omega
        have mb2 : (if v2.p ≤ f2.p then v2.p else f2.p) = M.p := by rw [hM]; unfold minV; simp only; omega
        have mc0 : min v2.c f2.c = M.c := by rw [hM]; rfl
        have mc1 : min v2.m f2.m = M.m := by rw [hM]; rfl
        have mc2 : min v2.p f2.p = M.p := by rw [hM]; rfl
        clear hM hv2 hy ym FY
        go_upto_region 1 with fail
        have BA := Lib.hid (below_al BR.out (.cells #[.string y.name, .string y.parent, .int .i64 y.lim.c, .int .i64 y.lim.m, .int .i64 y.lim.p, .int .i64 y.own.c, .int .i64 y.own.m, .int .i64 y.own.p, .int .i64 y.sub.c, .int .i64 y.sub.m, .int .i64 y.sub.p, .int .i64 y.ver] 40))
        have BW := Lib.hid (below_al (Below.refl wr.heap.size wr) (.cells #[.string y.name, .string y.parent, .int .i64 y.lim.c, .int .i64 y.lim.m, .int .i64 y.lim.p, .int .i64 y.own.c, .int .i64 y.own.m, .int .i64 y.own.p, .int .i64 y.sub.c, .int .i64 y.sub.m, .int .i64 y.sub.p, .int .i64 y.ver] 40))
        have NX := Lib.hid (heap_alloc_new wr (.cells #[.string y.name, .string y.parent, .int .i64 y.lim.c, .int .i64 y.lim.m, .int .i64 y.lim.p, .int .i64 y.own.c, .int .i64 y.own.m, .int .i64 y.own.p, .int .i64 y.sub.c, .int .i64 y.sub.m, .int .i64 y.sub.p, .int .i64 y.ver] 40))
        have p0 : (wr.alloc (.cells #[.string y.name, .string y.parent, .int .i64 y.lim.c, .int .i64 y.lim.m, .int .i64 y.lim.p, .int .i64 y.own.c, .int .i64 y.own.m, .int .i64 y.own.p, .int .i64 y.sub.c, .int .i64 y.sub.m, .int .i64 y.sub.p, .int .i64 y.ver] 40)).cell? ⟨wr.heap.size, 0, none⟩ = some (.string y.name) := by rw [cell_of_row _ _ 0 _ _ _ NX.out]; rfl
        have p1 : (wr.alloc (.cells #[.string y.name, .string y.parent, .int .i64 y.lim.c, .int .i64 y.lim.m, .int .i64 y.lim.p, .int .i64 y.own.c, .int .i64 y.own.m, .int .i64 y.own.p, .int .i64 y.sub.c, .int .i64 y.sub.m, .int .i64 y.sub.p, .int .i64 y.ver] 40)).cell? ⟨wr.heap.size, 1, none⟩ = some (.string y.parent) := by rw [cell_of_row _ _ 1 _ _ _ NX.out]; rfl
        have p2 : (wr.alloc (.cells #[.string y.name, .string y.parent, .int .i64 y.lim.c, .int .i64 y.lim.m, .int .i64 y.lim.p, .int .i64 y.own.c, .int .i64 y.own.m, .int .i64 y.own.p, .int .i64 y.sub.c, .int .i64 y.sub.m, .int .i64 y.sub.p, .int .i64 y.ver] 40)).cell? ⟨wr.heap.size, 2, none⟩ = some (.int .i64 y.lim.c) := by rw [cell_of_row _ _ 2 _ _ _ NX.out]; rfl
        have p3 : (wr.alloc (.cells #[.string y.name, .string y.parent, .int .i64 y.lim.c, .int .i64 y.lim.m, .int .i64 y.lim.p, .int .i64 y.own.c, .int .i64 y.own.m, .int .i64 y.own.p, .int .i64 y.sub.c, .int .i64 y.sub.m, .int .i64 y.sub.p, .int .i64 y.ver] 40)).cell? ⟨wr.heap.size, 3, none⟩ = some (.int .i64 y.lim.m) := by rw [cell_of_row _ _ 3 _ _ _ NX.out]; rfl
        have p4 : (wr.alloc (.cells #[.string y.name, .string y.parent, .int .i64 y.lim.c, .int .i64 y.lim.m, .int .i64 y.lim.p, .int .i64 y.own.c, .int .i64 y.own.m, .int .i64 y.own.p, .int .i64 y.sub.c, .int .i64 y.sub.m, .int .i64 y.sub.p, .int .i64 y.ver] 40)).cell? ⟨wr.heap.size, 4, none⟩ = some (.int .i64 y.lim.p) := by rw [cell_of_row _ _ 4 _ _ _ NX.out]; rfl
        have p5 : (wr.alloc (.cells #[.string y.name, .string y.parent, .int .i64 y.lim.c, .int .i64 y.lim.m, .int .i64 y.lim.p, .int .i64 y.own.c, .int .i64 y.own.m, .int .i64 y.own.p, .int .i64 y.sub.c, .int .i64 y.sub.m, .int .i64 y.sub.p, .int .i64 y.ver] 40)).cell? ⟨wr.heap.size, 5, none⟩ = some (.int .i64 y.own.c) := by rw [cell_of_row _ _ 5 _ _ _ NX.out]; rfl
        have p6 : (wr.alloc (.cells #[.string y.name, .string y.parent, .int .i64 y.lim.c, .int .i64 y.lim.m, .int .i64 y.lim.p, .int .i64 y.own.c, .int .i64 y.own.m, .int .i64 y.own.p, .int .i64 y.sub.c, .int .i64 y.sub.m, .int .i64 y.sub.p, .int .i64 y.ver] 40)).cell? ⟨wr.heap.size, 6, none⟩ = some (.int .i64 y.own.m) := by rw [cell_of_row _ _ 6 _ _ _ NX.out]; rfl
        have p7 : (wr.alloc (.cells #[.string y.name, .string y.parent, .int .i64 y.lim.c, .int .i64 y.lim.m, .int .i64 y.lim.p, .int .i64 y.own.c, .int .i64 y.own.m, .int .i64 y.own.p, .int .i64 y.sub.c, .int .i64 y.sub.m, .int .i64 y.sub.p, .int .i64 y.ver] 40)).cell? ⟨wr.heap.size, 7, none⟩ = some (.int .i64 y.own.p) := by rw [cell_of_row _ _ 7 _ _ _ NX.out]; rfl
        have p8 : (wr.alloc (.cells #[.string y.name, .string y.parent, .int .i64 y.lim.c, .int .i64 y.lim.m, .int .i64 y.lim.p, .int .i64 y.own.c, .int .i64 y.own.m, .int .i64 y.own.p, .int .i64 y.sub.c, .int .i64 y.sub.m, .int .i64 y.sub.p, .int .i64 y.ver] 40)).cell? ⟨wr.heap.size, 8, none⟩ = some (.int .i64 y.sub.c) := by rw [cell_of_row _ _ 8 _ _ _ NX.out]; rfl
        have p9 : (wr.alloc (.cells #[.string y.name, .string y.parent, .int .i64 y.lim.c, .int .i64 y.lim.m, .int .i64 y.lim.p, .int .i64 y.own.c, .int .i64 y.own.m, .int .i64 y.own.p, .int .i64 y.sub.c, .int .i64 y.sub.m, .int .i64 y.sub.p, .int .i64 y.ver] 40)).cell? ⟨wr.heap.size, 9, none⟩ = some (.int .i64 y.sub.m) := by rw [cell_of_row _ _ 9 _ _ _ NX.out]; rfl
        have p10 : (wr.alloc (.cells #[.string y.name, .string y.parent, .int .i64 y.lim.c, .int .i64 y.lim.m, .int .i64 y.lim.p, .int .i64 y.own.c, .int .i64 y.own.m, .int .i64 y.own.p, .int .i64 y.sub.c, .int .i64 y.sub.m, .int .i64 y.sub.p, .int .i64 y.ver] 40)).cell? ⟨wr.heap.size, 10, none⟩ = some (.int .i64 y.sub.p) := by rw [cell_of_row _ _ 10 _ _ _ NX.out]; rfl
        have p11 : (wr.alloc (.cells #[.string y.name, .string y.parent, .int .i64 y.lim.c, .int .i64 y.lim.m, .int .i64 y.lim.p, .int .i64 y.own.c, .int .i64 y.own.m, .int .i64 y.own.p, .int .i64 y.sub.c, .int .i64 y.sub.m, .int .i64 y.sub.p, .int .i64 y.ver] 40)).cell? ⟨wr.heap.size, 11, none⟩ = some (.int .i64 y.ver) := by rw [cell_of_row _ _ 11 _ _ _ NX.out]; rfl
        have TA := Lib.hid (TR.out.below BW.out)
        have VA := Lib.hid (VR.out.below BW.out)
        clear k0 k1 k2 k3 k4 k5 k6 k7 k8 k9 k10 k11 NX
        generalize hbx : wr.heap.size = bx at *
        generalize wr.alloc (.cells #[.string y.name, .string y.parent, .int .i64 y.lim.c, .int .i64 y.lim.m, .int .i64 y.lim.p, .int .i64 y.own.c, .int .i64 y.own.m, .int .i64 y.own.p, .int .i64 y.sub.c, .int .i64 y.sub.m, .int .i64 y.sub.p, .int .i64 y.ver] 40) = wx at *
        go_wp2_with fail
        with_reducible refine (LY.out _).mono ?_
        rintro e w6 ⟨rfl, hb6⟩
        have B6 := Lib.hid (below_tr BA.out hb6)
        have T6 := Lib.hid (TA.out.below hb6)
        have V6 := Lib.hid (VA.out.below hb6)
        have V7 := Lib.hid (V6.out.al (.cells #[.int .i64 f2.c, .int .i64 f2.m, .int .i64 f2.p] 27))
        have B7 := Lib.hid (below_al B6.out (.cells #[.int .i64 f2.c, .int .i64 f2.m, .int .i64 f2.p] 27))
        have T7 := Lib.hid (T6.out.below (below_al (Below.refl w6.heap.size w6) (.cells #[.int .i64 f2.c, .int .i64 f2.m, .int .i64 f2.p] 27)))
        obtain ⟨e0, e1, e2, el⟩ := V7.out.cells
        have f0 := V7.out.free 0
        have f1 := V7.out.free 1
        have f2' := V7.out.free 2
        have N7 := Lib.hid (CBlk.new w6 f2)
        obtain ⟨g0, g1, g2, gl⟩ := N7.out.cells
        clear hb6 p0 p1 p2 p3 p4 p5 p6 p7 p8 p9 p10 p11
        go_wp2_with fail
        go_roundg (r.length - (k + 1))
        case rel => exact ⟨k + 1, by go_num, Nat.le_refl _, hlt, below_set3 B7.out GEV.out _ _ _, T7.out.far NEV.out _ _ _, by rw [RS.out]; exact V7.out.set M⟩
        case measure => have := HM.out; omega
      · obtain rfl : k = r.length := by omega
        rw [← FV.out] at VR
        obtain ⟨e0, e1, e2, e3⟩ := TR.out.cells
        have f0 := TR.out.free 0
        have f1 := TR.out.free 1
        have f2 := TR.out.free 2
        have f3 := TR.out.free 3
        obtain ⟨g0, g1, g2, gl⟩ := VR.out.cells
        go_wp2_with fail
        have TS := TR.out.set (.slice (some ⟨xg, xo, none⟩) n cap) lv
        have BF := Lib.hid (below_set4' BR.out (Nat.le_refl w.heap.size) (.slice (some ⟨xg, xo, none⟩) n cap) (.int .i64 lv.c) (.int .i64 lv.m) (.int .i64 lv.p))
        generalize (((wr.setCell ⟨w.heap.size, 0, none⟩ (.slice (some ⟨xg, xo, none⟩) n cap)).setCell ⟨w.heap.size, 1, none⟩ (.int .i64 lv.c)).setCell ⟨w.heap.size, 2, none⟩ (.int .i64 lv.m)).setCell ⟨w.heap.size, 3, none⟩ (.int .i64 lv.p) = wf at *
        obtain ⟨c0, c1, c2, c3⟩ := TS.cells
        exact bodyPost_ret (v := .agg #[.slice (some ⟨xg, xo, none⟩) n cap, .int .i64 lv.c, .int .i64 lv.m, .int .i64 lv.p]) (by simp [results, Try.results29, go_sem, c0, c1, c2, c3]) rfl ⟨_, rfl, BF.out, H.out.below BF.out⟩
end
end Go.Proofs.Ytffmmoligdoclaa
