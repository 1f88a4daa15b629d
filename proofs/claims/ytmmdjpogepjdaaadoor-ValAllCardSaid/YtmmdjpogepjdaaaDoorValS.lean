/- Package val: clone, walked. -/
import Derived.Test.YtmmdjpogepjdaaaDoorValR
namespace Go.Proofs.YtmmdjpogepjdaaaDoor
open Go.RowKit
set_option linter.unusedVariables false
set_option linter.unusedSimpArgs false

theorem VBlk.free {w : World} {g : Nat} {v : VL} {lv : Value} (h : VBlk w g v lv) (o : Nat) : w.frozen? ⟨g, o, none⟩ = false := by
  have h : w.heap[g]? = some (.cells #[.int .i64 v.kind, .int .i64 v.num, .string v.text, lv] 24 (0, 0)) := h
  simp [World.frozen?, h]
theorem VBlk.set3 {w : World} {g : Nat} {v : VL} {lv : Value} (h : VBlk w g v lv) (x : Value) : VBlk (w.setCell ⟨g, 3, none⟩ x) g v x := heap_setCell_same w g 3 _ _ x h
theorem NBlk.far {w : World} {g : Nat} {k n : Int} {s : ByteArray} (h : NBlk w g k n s) {p : Addr} (hp : g ≠ p.block) (x : Value) : NBlk (w.setCell p x) g k n s := (Below.heap_setCell _ _ _ _ hp).trans h
section
variable (w : World)
set_option maxHeartbeats 4000000 in
set_option maxRecDepth 20000 in
theorem vclone_step (D : Nat) (hC : 0 < D → CloneOf (D - 1)) : CloneOf D := by
  intro d v lv w hr hm
  obtain ⟨hk64, hkm⟩ := may_kids hm
  have HKM := Lib.hid hkm
  have HR := Lib.hid hr
  have hC0 := Lib.hid hC
  have hl := hr.len
  obtain ⟨lao, lcap, rfl⟩ := hr.shape
  clear hr hC hkm hm
  go_enter Tryd.func36, Tryd.ntmps36
  go_wp2_with fail
  have VB := Lib.hid ((VBlk.new w v (.slice lao v.kids.length lcap)).below (below_al (Below.refl _ _) (.cells #[.int .i64 0, .int .i64 0, .string ⟨#[]⟩, .slice none 0 0] 24)))
  have RB := Lib.hid (NBlk.new (w.alloc (.cells #[.int .i64 v.kind, .int .i64 v.num, .string v.text, .slice lao v.kids.length lcap] 24)) 0 0 ⟨#[]⟩)
  rw [show (w.alloc (.cells #[.int .i64 v.kind, .int .i64 v.num, .string v.text, .slice lao v.kids.length lcap] 24)).heap.size = w.heap.size + 1 by simp] at RB
  have K := Lib.hid (show Kept w _ from below_al (below_al (Below.refl w.heap.size w) (.cells #[.int .i64 v.kind, .int .i64 v.num, .string v.text, .slice lao v.kids.length lcap] 24)) (.cells #[.int .i64 0, .int .i64 0, .string ⟨#[]⟩, .slice none 0 0] 24))
  have SZ := Lib.hid (show ((w.alloc (.cells #[.int .i64 v.kind, .int .i64 v.num, .string v.text, .slice lao v.kids.length lcap] 24)).alloc (.cells #[.int .i64 0, .int .i64 0, .string ⟨#[]⟩, .slice none 0 0] 24)).heap.size = w.heap.size + 2 by simp)
  generalize (w.alloc (.cells #[.int .i64 v.kind, .int .i64 v.num, .string v.text, .slice lao v.kids.length lcap] 24)).alloc (.cells #[.int .i64 0, .int .i64 0, .string ⟨#[]⟩, .slice none 0 0] 24) = wb at *
  have KW : Below w.heap.size w wb := K.out
  (with_reducible refine (vsclone wb w KW D v.kids _ HR.out hk64).mono ?_)
  clear KW
  rintro e w1 ⟨v', ps, rfl, p1, p2, nr, hb⟩
  replace VB := Lib.hid (VB.out.below hb)
  replace RB := Lib.hid (RB.out.below hb)
  replace K := Lib.hid (kept_tr K.out hb)
  have KB := Lib.hid hb
  have NR := Lib.hid nr
  have P2 := Lib.hid p2
  have P1 := Lib.hid p1
  obtain ⟨y0, y1, y2, y3⟩ := VB.out.cells
  have y4 := VB.out.free 3
  have hlen : ps.length = v.kids.length := by rw [← p1]; simp
  have LEN := Lib.hid hlen
  unfold maxLen at hl
  clear p1 p2 hb hlen
  rcases nr with ⟨e0, ao', cap', rfl⟩ | ⟨e0, g, cap', rfl, hgl, hgh, hcl, hfr⟩
  · have hn : v.kids.length = 0 := by rw [← LEN.out, e0]; rfl
    have hk0 : v.kids = [] := List.eq_nil_of_length_eq_zero hn
    have HK0 := Lib.hid hk0
    clear NR P2 P1 e0 hn hk0 LEN
    go_wp2_with fail
    replace VB := Lib.hid (VB.out.set3 (.slice ao' 0 cap'))
    replace RB := Lib.hid (RB.out.far (p := ⟨w.heap.size, 3, none⟩) (by simp) (.slice ao' 0 cap'))
    replace K := Lib.hid (show Kept w _ from Below.setCell K.out (p := ⟨w.heap.size, 3, none⟩) (Nat.le_refl _) (.slice ao' 0 cap'))
    clear y0 y1 y2 y3 y4
    generalize w1.setCell ⟨w.heap.size, 3, none⟩ (.slice ao' 0 cap') = wa at *
    go_loopg [11] 0 (fun m iv wr => iv = .int .i64 0 ∧ wa = wr)
    case atStart => exact ⟨rfl, rfl⟩
    case round =>
      obtain ⟨rfl, rfl⟩ := hrel
      obtain ⟨y0, y1, y2, y3⟩ := VB.out.cells
      obtain ⟨⟨r0, r1, r2, r3, rl⟩, f0, f1, f2, f3⟩ := RB.out.full
      go_wp2_with fail
      refine bodyPost_ret (v := .agg #[.int .i64 v.kind, .int .i64 v.num, .string v.text, .slice ao' 0 cap']) (by simp [results, Tryd.results36, go_sem, r0, r1, r2, r3]) rfl ?_
      refine ⟨_, rfl, ?_, below_set4 K.out (Nat.le_succ _) _ _ _ _⟩
      rw [HK0.out]
      cases D with
      | zero => exact ⟨rfl, _, _, rfl⟩
      | succ D => exact ⟨Nat.zero_le _, _, _, rfl, fun i u hu => by simp at hu⟩
  · have INV : CInv w (w1.setCell ⟨w.heap.size, 3, none⟩ (.slice (some ⟨g, 0, none⟩) v.kids.length cap')) D v (.slice (some ⟨g, 0, none⟩) v.kids.length cap') g 0 ps := by
      have hs := SZ.out
      refine ⟨Below.setCell K.out (p := ⟨w.heap.size, 3, none⟩) (Nat.le_refl _) _, VB.out.set3 _, RB.out.far (p := ⟨w.heap.size, 3, none⟩) (by simp) _, P1.out, fun j q hj => ?_, fun o => ?_, by omega, by simpa [World.setCell] using hgh, fun j q hj hji => absurd hji (Nat.not_lt_zero _), fun j q hj _ => (P2.out q (List.mem_of_getElem? hj)).2⟩
      · obtain ⟨c0, c1, c2, c3⟩ := hcl j q hj
        have hne : ∀ o, (⟨w.heap.size, 3, none⟩ : Addr) ≠ ⟨g, o, none⟩ := fun o e => by injection e with e1 e2; omega
        exact ⟨(World.cell?_setCell_other _ _ _ _ (hne _)).trans c0, (World.cell?_setCell_other _ _ _ _ (hne _)).trans c1, (World.cell?_setCell_other _ _ _ _ (hne _)).trans c2, (World.cell?_setCell_other _ _ _ _ (hne _)).trans c3⟩
      · rw [World.frozen?_setCell]; exact hfr o
    have hD : 0 < D := by
      obtain ⟨q, hq⟩ := List.exists_mem_of_ne_nil ps e0
      exact (P2.out q hq).1
    have HD := Lib.hid hD
    have CC := Lib.hid (hC0.out hD)
    have IN := Lib.hid INV
    have HL := Lib.hid hl
    rw [LEN.out]
    clear NR hgl hgh hcl hfr e0 INV hD
    go_wp2_with fail
    clear y0 y1 y2 y3 y4
    generalize w1.setCell ⟨w.heap.size, 3, none⟩ (.slice (some ⟨g, 0, none⟩) v.kids.length cap') = wa at *
    go_loopg [11] v.kids.length (fun m iv wr => ∃ (i : Nat) (qs : List (VL × Value)), iv = .int .i64 i ∧ v.kids.length - i ≤ m ∧ i ≤ v.kids.length ∧ CInv w wr D v (.slice (some ⟨g, 0, none⟩) v.kids.length cap') g i qs)
    case atStart => exact ⟨0, ps, rfl, Nat.le_refl _, Nat.zero_le _, IN.out⟩
    case round =>
      obtain ⟨i, qs, rfl, hm, hi, inv⟩ := hrel
      have HM := Lib.hid hm
      have IV := Lib.hid inv
      obtain ⟨y0, y1, y2, y3⟩ := inv.box.cells
      obtain ⟨⟨r0, r1, r2, r3, rl⟩, f0, f1, f2, f3⟩ := inv.res.full
      clear hm inv IN
      by_cases hil : i < v.kids.length
      · obtain ⟨u, hu⟩ : ∃ u, v.kids[i]? = some u := ⟨_, List.getElem?_eq_getElem hil⟩
        have hql : qs.length = v.kids.length := by have h := congrArg List.length IV.out.fst; simpa using h
        obtain ⟨q, hq⟩ : ∃ q, qs[i]? = some q := ⟨_, List.getElem?_eq_getElem (by omega)⟩
        have hqu : q.1 = u := by
          have h3 : (qs.map (·.1))[i]? = some q.1 := by rw [List.getElem?_map, hq]; rfl
          rw [IV.out.fst, hu] at h3
          exact (Option.some.inj h3).symm
        obtain ⟨c0, c1, c2, c3⟩ := IV.out.cells i q hq
        have hrd := IV.out.todo i q hq (Nat.le_refl _)
        rw [hqu] at c0 c1 c2 hrd
        simp only [Nat.zero_add] at c0 c1 c2 c3
        obtain ⟨uao, ucap, eu⟩ := hrd.shape
        rw [eu] at c3 hrd
        have hmu := HKM.out u (List.mem_of_getElem? hu)
        have C1 := Lib.hid (fun W (hw : Below wr.heap.size wr W) => CC.out.call (d - 1) u _ W (hrd.below (below_tr IV.out.kept hw)) hmu)
        have HU := Lib.hid hu
        have QL := Lib.hid hql
        have z0 := IV.out.frozen (i * 4)
        have z1 := IV.out.frozen (i * 4 + 1)
        have z2 := IV.out.frozen (i * 4 + 2)
        have z3 := IV.out.frozen (i * 4 + 3)
        have hgh := IV.out.high
        clear hu hql hq hqu hrd eu hmu
        go_upto_region 5 with fail
        go_region_with (go_at_call 36; refine (C1.out _ ?_).mono ?_; (repeat (first | with_reducible exact Below.refl _ _ | with_reducible refine below_drew ?_ | with_reducible refine below_drewN ?_ _)); rintro e w2 ⟨lu, rfl, hin, hb⟩; obtain ⟨ulao, ulcap, eul⟩ := hin.rd.shape; subst eul; have HIN := Lib.hid (RowIn.keep (Q := fun b => wr.heap.size ≤ b) (fun g hg => hg) (fun _ _ _ _ h => h) hin); have HB := Lib.hid (show Below wr.heap.size wr w2 from ⟨hb.os, hb.tape, hb.output, hb.size, hb.block⟩); have k3 := hold HB.out y3; have d0 := hold HB.out c0; have d1 := hold HB.out c1; have d2 := hold HB.out c2; have d3 := hold HB.out c3; have x0 := (HB.out.frozen (p := ⟨g, i * 4, none⟩) hgh).trans z0; have x1 := (HB.out.frozen (p := ⟨g, i * 4 + 1, none⟩) hgh).trans z1; have x2 := (HB.out.frozen (p := ⟨g, i * 4 + 2, none⟩) hgh).trans z2; have x3 := (HB.out.frozen (p := ⟨g, i * 4 + 3, none⟩) hgh).trans z3; clear hin hb)
        all_goals go_wp2
        all_goals go_roundg (v.kids.length - (i + 1))
        all_goals first
          | (case rel =>
              have UP := upd4 (p := (u, .slice ulao u.kids.length ulcap)) d0 d1 d2 d3
              have hlt : i < qs.length := by rw [QL.out]; exact hil
              have NX := IV.out.next hlt HU.out HB.out HIN.out UP
              dsimp only at NX
              exact ⟨i + 1, qs.set i (u, .slice ulao u.kids.length ulcap), by go_num, Nat.le_refl _, hil, NX⟩)
          | (case measure => have := HM.out; omega)
      · have hin : i = v.kids.length := by omega
        have IV2 := IV.out
        rw [hin] at IV2
        have WH := Lib.hid (CInv.whole IV2 HD.out HL.out)
        clear IV2
        have KR := Lib.hid IV.out.kept
        go_wp2_with fail
        refine bodyPost_ret (v := .agg #[.int .i64 v.kind, .int .i64 v.num, .string v.text, .slice (some ⟨g, 0, none⟩) v.kids.length cap']) (by simp [results, Tryd.results36, go_sem, r0, r1, r2, r3]) rfl ?_
        refine ⟨_, rfl, RowIn.keep (fun b hb => by omega) (fun b o z hb hz => ?_) WH.out, below_set4 KR.out (Nat.le_succ _) _ _ _ _⟩
        have hne : ∀ k, (⟨w.heap.size + 1, k, none⟩ : Addr) ≠ ⟨b, o, none⟩ := fun k e => by injection e with e1 e2; omega
        rw [World.cell?_setCell_other _ _ _ _ (hne _), World.cell?_setCell_other _ _ _ _ (hne _), World.cell?_setCell_other _ _ _ _ (hne _), World.cell?_setCell_other _ _ _ _ (hne _)]
        exact hz
end
end Go.Proofs.YtmmdjpogepjdaaaDoor
