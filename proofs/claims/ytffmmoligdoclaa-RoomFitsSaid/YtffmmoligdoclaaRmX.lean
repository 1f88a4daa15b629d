/- Package room: where it is tight on a way up. -/
import Derived.Test.YtffmmoligdoclaaRmW
import Derived.Test.YtffmmoligdoclaaRmC
namespace Go.Proofs.Ytffmmoligdoclaa
open Go.RowKit
set_option linter.unusedVariables false
set_option linter.unusedSimpArgs false
/-- Where it is tight, of the first k on the way. -/
def tightW (v : V3) (ws : List I12) (k : Nat) : List ByteArray := ((ws.take k).filter fun x => eq1 (freeV x) v).map fun x => x.name
theorem tightW_step {v : V3} {ws : List I12} {k : Nat} {x : I12} (h : ws[k]? = some x) : tightW v ws (k + 1) = if eq1 (freeV x) v = true then tightW v ws k ++ [x.name] else tightW v ws k := by
  unfold tightW
  rw [List.take_add_one, h, List.filter_append, List.map_append]
  by_cases e : eq1 (freeV x) v = true
  · simp [e]
  · simp [e]
theorem tightW_len (v : V3) (ws : List I12) (k : Nat) : (tightW v ws k).length ≤ k := by
  unfold tightW
  rw [List.length_map]
  refine Nat.le_trans (List.length_filter_le ..) ?_
  rw [List.length_take]; omega
theorem tightW_way {l : List I12} {v : V3} : ∀ {us : List ByteArray}, (∀ t ∈ us, ∃ x, look l t = some x) → ((wayL l us).filter fun x => eq1 (freeV x) v).map (fun x => x.name) = us.filter fun t => eq1 (freeA l t) v
  | [], _ => rfl
  | t :: r, h => by
    obtain ⟨x, hx⟩ := h t List.mem_cons_self
    have ih := tightW_way (l := l) (v := v) (us := r) (fun t ht => h t (List.mem_cons_of_mem _ ht))
    have e : wayL l (t :: r) = x :: wayL l r := by unfold wayL; rw [List.filterMap_cons, hx]
    have e2 : freeA l t = freeV x := freeA_at hx
    have e3 := (look_name hx).2
    rw [e, List.filter_cons, List.filter_cons, e2]
    by_cases c : eq1 (freeV x) v = true
    · rw [if_pos c, if_pos c, List.map_cons, ih, e3]
    · rw [if_neg c, if_neg c, ih]
section
variable (w : World)
set_option maxHeartbeats 8000000 in
set_option maxRecDepth 20000 in
theorem pntight (ws : List I12) (wv : Value) (h : IRow w ws wv) (hl : ws.length ≤ 1000) (hf : ∀ x ∈ ws, FitV (freeV x)) (rv : V3) :
    Calls Try.prog 32 #[.agg #[wv, .int .i64 rv.c, .int .i64 rv.m, .int .i64 rv.p]] w (MadeStrs (tightW rv ws ws.length) w) := by
  obtain ⟨i0, hi0, hz0, hz1, hz2⟩ := info_partsT info_str
  have HF := Lib.hid hf
  have H := Lib.hid h
  obtain ⟨ao, cap, rfl⟩ := h.shape
  have BX := Lib.hid (below_al (Below.refl w.heap.size w) (.cells #[.slice ao ws.length cap, .int .i64 rv.c, .int .i64 rv.m, .int .i64 rv.p] 54))
  have N1 := Lib.hid (NwBlk.new w (.slice ao ws.length cap) rv)
  obtain ⟨n0, n1, n2, n3⟩ := N1.out.cells
  clear h hf
  go_enter Try.func32, Try.ntmps32
  go_wp2_with fail
  have Z1 : (w.alloc (.cells #[.slice ao ws.length cap, .int .i64 rv.c, .int .i64 rv.m, .int .i64 rv.p] 54)).heap.size = w.heap.size + 1 := by simp
  have HZ1 := Lib.hid Z1
  clear n0 n1 n2 n3 Z1
  generalize w.alloc (.cells #[.slice ao ws.length cap, .int .i64 rv.c, .int .i64 rv.m, .int .i64 rv.p] 54) = w2 at *
  generalize hbb : w.heap.size = bb at *
  have HBB := Lib.hid hbb
  clear hbb
  go_loopg [3, 10] ws.length (fun m ov iv wr => ∃ k : Nat, iv = .int .i64 (k : Int) ∧ ws.length - k ≤ m ∧ k ≤ ws.length ∧ Below w2.heap.size w2 wr ∧ StrsO wr w2.heap.size ov (tightW rv ws k))
  case atStart => exact ⟨0, rfl, Nat.le_refl _, Nat.zero_le _, Below.refl _ _, (own_none _ _ _ _ : World.ownsRow _ _ _ _ _ _ _)⟩
  case round =>
    obtain ⟨k, rfl, hm, hk, hb, ho⟩ := hrel
    have HM := Lib.hid hm
    have BR := Lib.hid hb
    have OO := Lib.hid ho
    obtain ⟨oo, oc, rfl⟩ := ho.shape
    clear hm hb ho
    have BW := Lib.hid (show Below w.heap.size w wr from by rw [HBB.out]; exact BX.out.trans (BR.out.mono (by have := HZ1.out; omega)))
    by_cases hlt : k < ws.length
    · obtain ⟨y, hy⟩ : ∃ y, ws[k]? = some y := ⟨_, List.getElem?_eq_getElem hlt⟩
      have ym := List.mem_of_getElem? hy
      have FY := HF.out y ym
      have LY := Lib.hid (fun W => pleft W y (by unfold FitV at FY; unfold V3.I; omega))
      unfold I12.val I12.cells at LY
      have TS := Lib.hid (tightW_step (v := rv) hy)
      have TN := Lib.hid (tightW_len rv ws k)
      obtain ⟨gx, ox, eo, YA⟩ := (H.out.below BW.out).at0 hy
      obtain rfl := eo
      obtain ⟨k0, k1, k2, k3, k4, k5, k6, k7, k8, k9, k10, k11⟩ := YA
      have y0 : (0 : Int) ≤ (k : Int) := by omega
      have y1 : (k : Int) < (ws.length : Int) := by omega
      have N2 := Lib.hid (N1.out.below BR.out)
      generalize freeV y = f2 at *
      generalize tightW rv ws k = out at *
      clear hy ym FY
      go_upto_region 5 with fail
      have BA := Lib.hid (below_al BR.out (.cells #[.string y.name, .string y.parent, .int .i64 y.lim.c, .int .i64 y.lim.m, .int .i64 y.lim.p, .int .i64 y.own.c, .int .i64 y.own.m, .int .i64 y.own.p, .int .i64 y.sub.c, .int .i64 y.sub.m, .int .i64 y.sub.p, .int .i64 y.ver] 40))
      have BV := Lib.hid (below_al (Below.refl wr.heap.size wr) (.cells #[.string y.name, .string y.parent, .int .i64 y.lim.c, .int .i64 y.lim.m, .int .i64 y.lim.p, .int .i64 y.own.c, .int .i64 y.own.m, .int .i64 y.own.p, .int .i64 y.sub.c, .int .i64 y.sub.m, .int .i64 y.sub.p, .int .i64 y.ver] 40))
      have NX := Lib.hid (heap_alloc_new wr (.cells #[.string y.name, .string y.parent, .int .i64 y.lim.c, .int .i64 y.lim.m, .int .i64 y.lim.p, .int .i64 y.own.c, .int .i64 y.own.m, .int .i64 y.own.p, .int .i64 y.sub.c, .int .i64 y.sub.m, .int .i64 y.sub.p, .int .i64 y.ver] 40))
      have p0 : (wr.alloc (.cells #[.string y.name, .string y.parent, .int .i64 y.lim.c, .int .i64 y.lim.m, .int .i64 y.lim.p, .int .i64 y.own.c, .int .i64 y.own.m, .int .i64 y.own.p, .int .i64 y.sub.c, .int .i64 y.sub.m, .int .i64 y.sub.p, .int .i64 y.ver] 40)).cell? ⟨wr.heap.size, 0, none⟩ = some (.string y.name) := by rw [cell_of_row _ _ 0 _ _ _ NX.out]; rfl
      have p1 : (wr.alloc (.cells #[.string y.name, .string y.parent, .int .i64 y.lim.c, .int .i64 y.lim.m, .int .i64 y.lim.p, .int .i64 y.own.c, .int .i64 y.own.m, .int .i64 y.own.p, .int .i64 y.sub.c, .int .i64 y.sub.m, .int .i64 y.sub.p, .int .i64 y.ver] 40)).cell? ⟨wr.heap.size, 1, none⟩ = some (.string y.parent) := by rw [cell_of_row _ _ 1 _ _ _ NX.out]; rfl
      have p2 : (wr.alloc (.cells #[.string y.name, .string y.parent, .int .i64 y.lim.c, .int .i64 y.lim.m, .int .i64 y.lim.p, .int .i64 y.own.c, .int .i64 y.own.m, .int .i64 y.own.p, .int .i64 y.sub.c, .int .i64 y.sub.m, .int .i64 y.sub.p, .int .i64 y.ver] 40)).cell? ⟨wr.heap.size, 2, none⟩ = some (.int .i64 y.lim.c) := by rw [cell_of_row _ _ 2 _ _ _ NX.out]; rfl
      have p3 : (wr.alloc (.cells #[.string y.name, .string y.parent, .int .i64 y.lim.c, .int .i64 y.lim.m, .int .i64 y.lim.p, .int .i64 y.own.c, .int .i64 y.own.m, .int .i64 y.own.p, .int .i64 y.sub.c, .int .i64 y.sub.m, .int .i64 y.sub.p, .int .i64 y.ver] 40)).cell? ⟨wr.heap.size, 3, none⟩ = some (.int .i64 y.lim.m) := by rw [cell_of_row _ _ 3 _ _ _ NX.out]; rfl
      have p4 : (wr.alloc (.cells #[.string y.name, .string y.parent, .int .i64 y.lim.c, .int .i64 y.lim.m, .int .i64 y.lim.p, .int .i64 y.own.c, .int .i64 y.own.m, .int .i64 y.own.p, .int .i64 y.sub.c, .int .i64 y.sub.m, .int .i64 y.sub.p, .int .i64 y.ver] 40)).cell? ⟨wr.heap.size, 4, none⟩ = some (.int .i64 y.lim.p) := by rw [cell_of_row _ _ 4 _ _ _ NX.out]; rfl
      have p5 : (wr.alloc (.cells #[.string y.name, .string y.parent, .int .i64 y.lim.c, .int .i64 y.lim.m, .int .i64 y.lim.p, .int .i64 y.own.c, .int .i64 y.own.m, .int .i64 y.own.p, .int .i64 y.sub.c, .int .i64 y.sub.m, .int .i64 y.sub.p, .int .i64 y.ver] 40)).cell? ⟨wr.heap.size, 5, none⟩ = some (.int .i64 y.own.c) := by rw [cell_of_row _ _ 5 _ _ _ NX.out]; rfl
      have p6 : (wr.alloc (.cells #[.string y.name, .string y.parent, .int .i64 y.lim.c, .int .i64 y.lim.m, .int .i64 y.lim.p, .int .i64 y.own.c, .int .i64 y.own.m, .int .i64 y.own.p, .int .i64 y.sub.c, .int .i64 y.sub.m, .int .i64 y.sub.p, .int .i64 y.ver] 40)).cell? ⟨wr.heap.size, 6, none⟩ = some (.int .i64 y.own.m) := by rw [cell_of_row _ _ 6 _ _ _ NX.out]; rfl
      have p7 : (wr.alloc (.cells #[.string y.name, .string y.parent, .int .i64 y.lim.c, .int .i64 y.lim.m, .int .i64 y.lim.p, .int .i64 y.own.c, .int .i64 y.own.m, .int .i64 y.own.p, .int .i64 y.sub.c, .int .i64 y.sub.m, .int .i64 y.sub.p, .int .i64 y.ver] 40)).cell? ⟨wr.heap.size, 7, none⟩ = some (.int .i64 y.own.p) := by rw [cell_of_row _ _ 7 _ _ _ NX.out]; rfl
      have p8 : (wr.alloc (.cells #[.string y.name, .string y.parent, .int .i64 y.lim.c, .int .i64 y.lim.m, .int .i64 y.lim.p, .int .i64 y.own.c, .int .i64 y.own.m, .int .i64 y.own.p, .int .i64 y.sub.c, .int .i64 y.sub.m, .int .i64 y.sub.p, .int .i64 y.ver] 40)).cell? ⟨wr.heap.size, 8, none⟩ = some (.int .i64 y.sub.c) := by rw [cell_of_row _ _ 8 _ _ _ NX.out]; rfl
      have p9 : (wr.alloc (.cells #[.string y.name, .string y.parent, .int .i64 y.lim.c, .int .i64 y.lim.m, .int .i64 y.lim.p, .int .i64 y.own.c, .int .i64 y.own.m, .int .i64 y.own.p, .int .i64 y.sub.c, .int .i64 y.sub.m, .int .i64 y.sub.p, .int .i64 y.ver] 40)).cell? ⟨wr.heap.size, 9, none⟩ = some (.int .i64 y.sub.m) := by rw [cell_of_row _ _ 9 _ _ _ NX.out]; rfl
      have p10 : (wr.alloc (.cells #[.string y.name, .string y.parent, .int .i64 y.lim.c, .int .i64 y.lim.m, .int .i64 y.lim.p, .int .i64 y.own.c, .int .i64 y.own.m, .int .i64 y.own.p, .int .i64 y.sub.c, .int .i64 y.sub.m, .int .i64 y.sub.p, .int .i64 y.ver] 40)).cell? ⟨wr.heap.size, 10, none⟩ = some (.int .i64 y.sub.p) := by rw [cell_of_row _ _ 10 _ _ _ NX.out]; rfl
      have p11 : (wr.alloc (.cells #[.string y.name, .string y.parent, .int .i64 y.lim.c, .int .i64 y.lim.m, .int .i64 y.lim.p, .int .i64 y.own.c, .int .i64 y.own.m, .int .i64 y.own.p, .int .i64 y.sub.c, .int .i64 y.sub.m, .int .i64 y.sub.p, .int .i64 y.ver] 40)).cell? ⟨wr.heap.size, 11, none⟩ = some (.int .i64 y.ver) := by rw [cell_of_row _ _ 11 _ _ _ NX.out]; rfl
      have NA := Lib.hid (N2.out.below BV.out)
      have OA := Lib.hid (OO.out.below BV.out)
      clear k0 k1 k2 k3 k4 k5 k6 k7 k8 k9 k10 k11 NX
      generalize hbx : wr.heap.size = bx at *
      generalize wr.alloc (.cells #[.string y.name, .string y.parent, .int .i64 y.lim.c, .int .i64 y.lim.m, .int .i64 y.lim.p, .int .i64 y.own.c, .int .i64 y.own.m, .int .i64 y.own.p, .int .i64 y.sub.c, .int .i64 y.sub.m, .int .i64 y.sub.p, .int .i64 y.ver] 40) = wx at *
      go_wp2_with fail
      with_reducible refine (LY.out _).mono ?_
      rintro e w6 ⟨rfl, hb6⟩
      have B6 := Lib.hid (below_tr BA.out hb6)
      have BF := Lib.hid (below_al (Below.refl w6.heap.size w6) (.cells #[.int .i64 f2.c, .int .i64 f2.m, .int .i64 f2.p] 27))
      have O7 := Lib.hid ((OA.out.below hb6).below BF.out)
      have V7 := Lib.hid ((NA.out.below hb6).below BF.out)
      have B7 := Lib.hid (below_tr B6.out BF.out)
      have N7 := Lib.hid (CBlk.new w6 f2)
      have r0 := hold (below_tr hb6 BF.out) p0
      obtain ⟨e0, e1, e2, e3⟩ := V7.out.cells
      obtain ⟨g0, g1, g2, gl⟩ := N7.out.cells
      clear hb6 p0 p1 p2 p3 p4 p5 p6 p7 p8 p9 p10 p11
      go_upto_region 6 with fail
      generalize w6.heap.size = bf at *
      generalize w6.alloc (.cells #[.int .i64 f2.c, .int .i64 f2.m, .int .i64 f2.p] 27) = w7 at *
      obtain ⟨hq, hhq⟩ : ∃ hq, hq = eq1 f2 rv := ⟨_, rfl⟩
      replace hhq := Lib.hid hhq
      rw [← hhq.out] at TS
      go_cut [37] (fun s wx => s = .bool hq ∧ wx = w7)
      case first =>
        by_cases q1 : f2.c = rv.c
        · have R := Lib.hid (show hq = true from by rw [hhq.out]; unfold eq1; rw [decide_eq_true q1]; rfl)
          rw [q1] at g0
          clear q1
          go_wp2_with fail
          go_meet
          case rel => exact ⟨by rw [R.out], rfl⟩
        · have m1 : (f2.c == rv.c) = false := beq_false_of_ne q1
          by_cases q2 : f2.m = rv.m
          · have R := Lib.hid (show hq = true from by rw [hhq.out]; unfold eq1; rw [decide_eq_true q2]; simp)
            rw [q2] at g1
            clear q1 q2
            go_wp2_with fail
            go_meet
            case rel => exact ⟨by rw [R.out], rfl⟩
          · have m2 : (f2.m == rv.m) = false := beq_false_of_ne q2
            have R := Lib.hid (show hq = decide (f2.p = rv.p) from by rw [hhq.out]; unfold eq1; rw [decide_eq_false q1, decide_eq_false q2]; rfl)
            by_cases q3 : f2.p = rv.p
            · have R2 := Lib.hid (show hq = true from by rw [R.out]; exact decide_eq_true q3)
              rw [q3] at g2
              clear q1 q2 q3
              go_wp2_with fail
              go_meet
              case rel => exact ⟨by rw [R2.out], rfl⟩
            · have m3 : (f2.p == rv.p) = false := beq_false_of_ne q3
              have R2 := Lib.hid (show hq = false from by rw [R.out]; exact decide_eq_false q3)
              clear q1 q2 q3
              go_wp2_with fail
              go_meet
              case rel => exact ⟨by rw [R2.out], rfl⟩
      case rest =>
      obtain ⟨rfl, rfl⟩ := hcut
      generalize wc = w7 at *
      clear e0 e1 e2 e3 g0 g1 g2 gl hhq
      cases hq with
      | false =>
        have NS := Lib.hid (show tightW rv ws (k + 1) = out from TS.out)
        go_wp2_with fail
        go_roundg (ws.length - (k + 1))
        case rel => exact ⟨k + 1, by go_num, Nat.le_refl _, hlt, B7.out, by rw [NS.out]; exact O7.out⟩
        case measure => have := HM.out; omega
      | true =>
        have NS := Lib.hid (show tightW rv ws (k + 1) = out ++ [y.name] from TS.out)
        have BA2 := Lib.hid (below_al (Below.refl w7.heap.size w7) (.cells #[.string y.name] 9))
        have O1 := Lib.hid (show (w7.alloc (.cells #[.string y.name] 9)).ownsRow w2.heap.size 9 1 (.slice oo out.length oc) out.length (strC out) from World.ownsRow.alloc O7.out _)
        have B8 := Lib.hid (below_tr B7.out BA2.out)
        have LOW := Lib.hid (show ∀ q, (Value.slice oo out.length oc).ownBlock = some q → w2.heap.size ≤ q from fun q hq => (World.ownsRow.lt O7.out q hq).1)
        go_wp2_with (first
          | (at_builtin; refine wpList_append_lies _ rfl _ _ 23 rfl w2.heap.size 9 i0 (.string ⟨#[]⟩) 1 16 Try.underlying23 hi0 hz0 hz1 hz2 rfl (by decide) (.slice oo out.length oc) out.length (strC out) rfl O1.out ⟨w7.heap.size, 0, none⟩ 1 1 [.string y.name] rfl rfl (news_str w7 y.name) (by simp [Value.oneCell']) (by decide) (by have := TN.out; unfold maxLen; omega) (by have := TN.out; omega) B8.out.size _ rfl ?_; intro gg cc w8 hown8 hgrow8 hat8 hlt8))
        have B9 := Lib.hid (below_grown' B8.out hgrow8 LOW.out)
        have O9 := Lib.hid (show StrsO w8 w2.heap.size (.slice (some ⟨gg, 0, none⟩) (out.length + 1) cc) (tightW rv ws (k + 1)) from by
          rw [NS.out]
          unfold StrsO
          rw [List.length_append, strC_app]; exact hown8)
        clear hown8 hgrow8 hat8 hlt8
        go_wp2_with fail
        go_roundg (ws.length - (k + 1))
        case rel => exact ⟨k + 1, by go_num, Nat.le_refl _, hlt, B9.out, O9.out⟩
        case measure => have := HM.out; omega
    · obtain rfl : k = ws.length := by omega
      obtain ⟨n0, n1, n2, n3⟩ := (N1.out.below BR.out).cells
      go_wp2_with fail
      go_ret
      exact ⟨_, rfl, BW.out, own_lower0 OO.out (by have := HZ1.out; have := HBB.out; omega)⟩
end
end Go.Proofs.Ytffmmoligdoclaa
