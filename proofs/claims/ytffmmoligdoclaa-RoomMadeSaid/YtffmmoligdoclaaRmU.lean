/- Package room: heads, walked. -/
import Derived.Test.YtffmmoligdoclaaRmT
namespace Go.Proofs.Ytffmmoligdoclaa
open Go.RowKit
set_option linter.unusedVariables false
set_option linter.unusedSimpArgs false
theorem less_next {a b m q : Nat} (h : a - b ≤ m) (h2 : b + (q + 1) ≤ a) : a - (b + 1) < m := by omega
section
variable (w : World)
set_option maxHeartbeats 8000000 in
set_option maxRecDepth 20000 in
theorem pheads (l : List I12) (lv : Value) (h : IRow w l lv) (hr : RT l) (ns : List ByteArray) (g0 n0 : Nat) (hS : SetIn w g0 n0 (fun x => x ∈ ns)) :
    Calls Try.prog 33 #[lv, .map (some g0)] w fun e w' => ∃ P v, e = .returned v ∧ Below w.heap.size w w' ∧ HS l ns P [] ∧ IOwn w' w.heap.size (headL ns P) v := by
  have HR := Lib.hid hr
  have HZ := Lib.hid hr.short
  have hl : l.length ≤ 120 := hr.len
  obtain ⟨i0, hi0, hz0, hz1, hz2⟩ := info_partsT info_item
  have SS := Lib.hid (fun W (hW : Below w.heap.size w W) => hS.below hW)
  have M0 := Lib.hid (MapR.new w)
  have B0 := Lib.hid (below_al (Below.refl w.heap.size w) (.map #[] 0))
  have XAT := Lib.hid (fun W (hW : Below w.heap.size w W) => h.below hW)
  obtain ⟨ao, cap, rfl⟩ := h.shape
  clear h hr hS
  have hmm := @run_makeMap Try.prog
  go_enter Try.func33, Try.ntmps33
  go_wp2_with fail
  go_loopg [16] l.length (fun m iv wr => BelRel w l m iv wr)
  case atStart => exact ⟨0, rfl, Nat.le_refl _, Nat.zero_le _, B0.out, _, _, M0.out⟩
  case round =>
    obtain ⟨k, rfl, hm, hk, hb, d, V, hM⟩ := hrel
    have HM := Lib.hid hm
    have BR := Lib.hid hb
    have MI := Lib.hid hM
    clear hm hb hM
    by_cases hlt : k < l.length
    · obtain ⟨u, hu⟩ : ∃ u, l[k]? = some u := ⟨_, List.getElem?_eq_getElem hlt⟩
      have HU := Lib.hid hu
      obtain ⟨_, _, e9, _, _, h9⟩ := XAT.out wr BR.out
      simp only [Value.slice.injEq, true_and] at e9
      obtain ⟨rfl, rfl⟩ := e9
      obtain ⟨g, o, rfl, hc⟩ := h9 k u hu
      obtain ⟨k0, k1, k2, k3, k4, k5, k6, k7, k8, k9, k10, k11⟩ := hc
      have PS := Lib.hid (show u.parent.size ≤ maxLen by have := HZ.out u (List.mem_of_getElem? hu); unfold maxLen; omega)
      clear hu h9
      go_upto_region 1 with fail
      have BX := Lib.hid (below_al BR.out (.cells #[.string u.name, .string u.parent, .int .i64 u.lim.c, .int .i64 u.lim.m, .int .i64 u.lim.p, .int .i64 u.own.c, .int .i64 u.own.m, .int .i64 u.own.p, .int .i64 u.sub.c, .int .i64 u.sub.m, .int .i64 u.sub.p, .int .i64 u.ver] 40))
      have NX := Lib.hid (heap_alloc_new wr (.cells #[.string u.name, .string u.parent, .int .i64 u.lim.c, .int .i64 u.lim.m, .int .i64 u.lim.p, .int .i64 u.own.c, .int .i64 u.own.m, .int .i64 u.own.p, .int .i64 u.sub.c, .int .i64 u.sub.m, .int .i64 u.sub.p, .int .i64 u.ver] 40))
      have MX := Lib.hid (MI.out.alloc (.cells #[.string u.name, .string u.parent, .int .i64 u.lim.c, .int .i64 u.lim.m, .int .i64 u.lim.p, .int .i64 u.own.c, .int .i64 u.own.m, .int .i64 u.own.p, .int .i64 u.sub.c, .int .i64 u.sub.m, .int .i64 u.sub.p, .int .i64 u.ver] 40))
      have p0 : (wr.alloc (.cells #[.string u.name, .string u.parent, .int .i64 u.lim.c, .int .i64 u.lim.m, .int .i64 u.lim.p, .int .i64 u.own.c, .int .i64 u.own.m, .int .i64 u.own.p, .int .i64 u.sub.c, .int .i64 u.sub.m, .int .i64 u.sub.p, .int .i64 u.ver] 40)).cell? ⟨wr.heap.size, 0, none⟩ = some (.string u.name) := by rw [cell_of_row _ _ 0 _ _ _ NX.out]; rfl
      have p1 : (wr.alloc (.cells #[.string u.name, .string u.parent, .int .i64 u.lim.c, .int .i64 u.lim.m, .int .i64 u.lim.p, .int .i64 u.own.c, .int .i64 u.own.m, .int .i64 u.own.p, .int .i64 u.sub.c, .int .i64 u.sub.m, .int .i64 u.sub.p, .int .i64 u.ver] 40)).cell? ⟨wr.heap.size, 1, none⟩ = some (.string u.parent) := by rw [cell_of_row _ _ 1 _ _ _ NX.out]; rfl
      have p2 : (wr.alloc (.cells #[.string u.name, .string u.parent, .int .i64 u.lim.c, .int .i64 u.lim.m, .int .i64 u.lim.p, .int .i64 u.own.c, .int .i64 u.own.m, .int .i64 u.own.p, .int .i64 u.sub.c, .int .i64 u.sub.m, .int .i64 u.sub.p, .int .i64 u.ver] 40)).cell? ⟨wr.heap.size, 2, none⟩ = some (.int .i64 u.lim.c) := by rw [cell_of_row _ _ 2 _ _ _ NX.out]; rfl
      have p3 : (wr.alloc (.cells #[.string u.name, .string u.parent, .int .i64 u.lim.c, .int .i64 u.lim.m, .int .i64 u.lim.p, .int .i64 u.own.c, .int .i64 u.own.m, .int .i64 u.own.p, .int .i64 u.sub.c, .int .i64 u.sub.m, .int .i64 u.sub.p, .int .i64 u.ver] 40)).cell? ⟨wr.heap.size, 3, none⟩ = some (.int .i64 u.lim.m) := by rw [cell_of_row _ _ 3 _ _ _ NX.out]; rfl
      have p4 : (wr.alloc (.cells #[.string u.name, .string u.parent, .int .i64 u.lim.c, .int .i64 u.lim.m, .int .i64 u.lim.p, .int .i64 u.own.c, .int .i64 u.own.m, .int .i64 u.own.p, .int .i64 u.sub.c, .int .i64 u.sub.m, .int .i64 u.sub.p, .int .i64 u.ver] 40)).cell? ⟨wr.heap.size, 4, none⟩ = some (.int .i64 u.lim.p) := by rw [cell_of_row _ _ 4 _ _ _ NX.out]; rfl
      have p5 : (wr.alloc (.cells #[.string u.name, .string u.parent, .int .i64 u.lim.c, .int .i64 u.lim.m, .int .i64 u.lim.p, .int .i64 u.own.c, .int .i64 u.own.m, .int .i64 u.own.p, .int .i64 u.sub.c, .int .i64 u.sub.m, .int .i64 u.sub.p, .int .i64 u.ver] 40)).cell? ⟨wr.heap.size, 5, none⟩ = some (.int .i64 u.own.c) := by rw [cell_of_row _ _ 5 _ _ _ NX.out]; rfl
      have p6 : (wr.alloc (.cells #[.string u.name, .string u.parent, .int .i64 u.lim.c, .int .i64 u.lim.m, .int .i64 u.lim.p, .int .i64 u.own.c, .int .i64 u.own.m, .int .i64 u.own.p, .int .i64 u.sub.c, .int .i64 u.sub.m, .int .i64 u.sub.p, .int .i64 u.ver] 40)).cell? ⟨wr.heap.size, 6, none⟩ = some (.int .i64 u.own.m) := by rw [cell_of_row _ _ 6 _ _ _ NX.out]; rfl
      have p7 : (wr.alloc (.cells #[.string u.name, .string u.parent, .int .i64 u.lim.c, .int .i64 u.lim.m, .int .i64 u.lim.p, .int .i64 u.own.c, .int .i64 u.own.m, .int .i64 u.own.p, .int .i64 u.sub.c, .int .i64 u.sub.m, .int .i64 u.sub.p, .int .i64 u.ver] 40)).cell? ⟨wr.heap.size, 7, none⟩ = some (.int .i64 u.own.p) := by rw [cell_of_row _ _ 7 _ _ _ NX.out]; rfl
      have p8 : (wr.alloc (.cells #[.string u.name, .string u.parent, .int .i64 u.lim.c, .int .i64 u.lim.m, .int .i64 u.lim.p, .int .i64 u.own.c, .int .i64 u.own.m, .int .i64 u.own.p, .int .i64 u.sub.c, .int .i64 u.sub.m, .int .i64 u.sub.p, .int .i64 u.ver] 40)).cell? ⟨wr.heap.size, 8, none⟩ = some (.int .i64 u.sub.c) := by rw [cell_of_row _ _ 8 _ _ _ NX.out]; rfl
      have p9 : (wr.alloc (.cells #[.string u.name, .string u.parent, .int .i64 u.lim.c, .int .i64 u.lim.m, .int .i64 u.lim.p, .int .i64 u.own.c, .int .i64 u.own.m, .int .i64 u.own.p, .int .i64 u.sub.c, .int .i64 u.sub.m, .int .i64 u.sub.p, .int .i64 u.ver] 40)).cell? ⟨wr.heap.size, 9, none⟩ = some (.int .i64 u.sub.m) := by rw [cell_of_row _ _ 9 _ _ _ NX.out]; rfl
      have p10 : (wr.alloc (.cells #[.string u.name, .string u.parent, .int .i64 u.lim.c, .int .i64 u.lim.m, .int .i64 u.lim.p, .int .i64 u.own.c, .int .i64 u.own.m, .int .i64 u.own.p, .int .i64 u.sub.c, .int .i64 u.sub.m, .int .i64 u.sub.p, .int .i64 u.ver] 40)).cell? ⟨wr.heap.size, 10, none⟩ = some (.int .i64 u.sub.p) := by rw [cell_of_row _ _ 10 _ _ _ NX.out]; rfl
      have p11 : (wr.alloc (.cells #[.string u.name, .string u.parent, .int .i64 u.lim.c, .int .i64 u.lim.m, .int .i64 u.lim.p, .int .i64 u.own.c, .int .i64 u.own.m, .int .i64 u.own.p, .int .i64 u.sub.c, .int .i64 u.sub.m, .int .i64 u.sub.p, .int .i64 u.ver] 40)).cell? ⟨wr.heap.size, 11, none⟩ = some (.int .i64 u.ver) := by rw [cell_of_row _ _ 11 _ _ _ NX.out]; rfl
      have GE := Lib.hid BR.out.size
      have OB := Lib.hid (show ∀ q, (V u.parent).ownBlock = some q → q < wr.heap.size from fun q hq => ((MI.out.row u.parent).lt q hq).2)
      have KS := Lib.hid (show ∀ s, kidTo l s (k + 1) = if s = u.parent then kidTo l u.parent k ++ [u] else kidTo l s k from fun s => by
        rw [kidTo_step HU.out]
        by_cases e : u.parent = s
        · subst e; simp
        · rw [if_neg e, if_neg (fun h => e h.symm)])
      clear k0 k1 k2 k3 k4 k5 k6 k7 k8 k9 k10 k11 MI BR NX
      generalize hbx : wr.heap.size = bx at *
      generalize wr.alloc (.cells #[.string u.name, .string u.parent, .int .i64 u.lim.c, .int .i64 u.lim.m, .int .i64 u.lim.p, .int .i64 u.own.c, .int .i64 u.own.m, .int .i64 u.own.p, .int .i64 u.sub.c, .int .i64 u.sub.m, .int .i64 u.sub.p, .int .i64 u.ver] 40) = wx at *
      obtain ⟨vo, vc, hV⟩ := (irow_of_own (MX.out.row u.parent)).shape
      have HO := Lib.hid (MX.out.row u.parent)
      have AT := Lib.hid (MX.out.at' u.parent trivial)
      have lk0 := look_belowR (W := wx.drew) MX.out.map PS.out AT.out
      have lk1 := look_belowR (W := (wx.alloc (.cells #[.string u.name, .string u.parent, .int .i64 u.lim.c, .int .i64 u.lim.m, .int .i64 u.lim.p, .int .i64 u.own.c, .int .i64 u.own.m, .int .i64 u.own.p, .int .i64 u.sub.c, .int .i64 u.sub.m, .int .i64 u.sub.p, .int .i64 u.ver] 40)).drew) (MX.out.alloc _).map PS.out AT.out
      rw [hV] at lk0 lk1 HO AT
      have a1 := hold (below_al (Below.refl wx.heap.size wx) (.cells #[.string u.name, .string u.parent, .int .i64 u.lim.c, .int .i64 u.lim.m, .int .i64 u.lim.p, .int .i64 u.own.c, .int .i64 u.own.m, .int .i64 u.own.p, .int .i64 u.sub.c, .int .i64 u.sub.m, .int .i64 u.sub.p, .int .i64 u.ver] 40)) p1
      have UP := Lib.hid (show ∀ (O : Obj) (w6 : World) (v : Value), (wx.alloc O).drew.grownBy w6 (V u.parent).ownBlock → w6.cell? ⟨bx, 1, none⟩ = some (.string u.parent) ∧ ∃ w7, (Instr.mapUpdate 68 (.map (some w.heap.size)) (.string u.parent) v).run Try.prog w6 = .ok () w7 ∧ w7.ownsMap Try.prog 9 heldW w.heap.size (k + 1) (d.put (keyW u.parent) (.held v)) ∧ w6.grownBy w7 (some w.heap.size) from fun O w6 v hg => by
        have hg2 := grownDA hg
        have hlt2 := World.block_lt_of_cell? _ _ p1
        refine ⟨(World.cell?_of_block (a := ⟨bx, 1, none⟩) (hg2.block bx hlt2 fun e => ?_)).trans p1, ?_⟩
        · have := OB.out bx e.symm
          omega
        · exact put_belowR (World.ownsMap.kept MX.out.map hg2 (fun e => MX.out.off u.parent e.symm)) (by omega) PS.out v)
      have LL := Lib.hid (show (kidTo l u.parent k).length ≤ 1000 from Nat.le_trans (kidTo_len _ _ _) (by omega))
      go_region_law (first | (refine step_append_lies _ (by rfl) _ _ _ (by rfl) w.heap.size 40 i0 _ 12 112 Try.underlying22 hi0 hz0 hz1 hz2 rfl (by decide) (.slice vo (kidTo l u.parent k).length vc) (kidTo l u.parent k).length (i12s (kidTo l u.parent k)) (by rfl) (by exact (World.ownsRow.alloc HO.out _)) ⟨wx.heap.size, 0, none⟩ 1 1 u.cells (by rfl) (by rfl) (by exact (news_new wx #[.string u.name, .string u.parent, .int .i64 u.lim.c, .int .i64 u.lim.m, .int .i64 u.lim.p, .int .i64 u.own.c, .int .i64 u.own.m, .int .i64 u.own.p, .int .i64 u.sub.c, .int .i64 u.sub.m, .int .i64 u.sub.p, .int .i64 u.ver] 40)) (i12c_one u) (by decide) (by have := LL.out; unfold maxLen; omega) (by have := LL.out; omega) (by have := BX.out.size; simp; omega) (wx.heap.size + 1) (by simp) ?_; intro gg cc w6 hown' hgrow hat hlt6; rw [← hV] at hgrow; obtain ⟨g1, w7, hrun, hown7, hg7⟩ := UP.out _ _ (.slice (some ⟨gg, 0, none⟩) ((kidTo l u.parent k).length + 1) cc) hgrow))
      all_goals
        have NM : Hid (BelRel w l (l.length - (k + 1)) (.int .i64 ((k + 1 : Nat) : Int)) w7) := by
          have hg6 : (wx.alloc (.cells #[.string u.name, .string u.parent, .int .i64 u.lim.c, .int .i64 u.lim.m, .int .i64 u.lim.p, .int .i64 u.own.c, .int .i64 u.own.m, .int .i64 u.own.p, .int .i64 u.sub.c, .int .i64 u.sub.m, .int .i64 u.sub.p, .int .i64 u.ver] 40)).grownBy w6 (V u.parent).ownBlock := ⟨hgrow.os, hgrow.tape, hgrow.output, hgrow.size, hgrow.block⟩
          have ho2 : w6.ownsRow w.heap.size 40 12 (.slice (some ⟨gg, 0, none⟩) ((kidTo l u.parent k).length + 1) cc) (kidTo l u.parent k ++ [u]).length (i12s (kidTo l u.parent k ++ [u])) := by
            rw [List.length_append, i12s_app]
            have e1 : i12s [u] = u.cells := by simp [i12s]
            rw [e1]; exact hown'
          have MP := (MX.out.alloc (.cells #[.string u.name, .string u.parent, .int .i64 u.lim.c, .int .i64 u.lim.m, .int .i64 u.lim.p, .int .i64 u.own.c, .int .i64 u.own.m, .int .i64 u.own.p, .int .i64 u.sub.c, .int .i64 u.sub.m, .int .i64 u.sub.p, .int .i64 u.ver] 40)).put hg6 hown7 hg7 ho2 (by
            rcases hat with h | h
            · left; rw [hV, h]; rfl
            · right; rw [h]; simp [Value.ownBlock]) (by simp)
          rw [show (fun x => if x = u.parent then kidTo l u.parent k ++ [u] else kidTo l x k) = fun s => kidTo l s (k + 1) from funext fun s => (KS.out s).symm] at MP
          have hlow : ∀ q, (V u.parent).ownBlock = some q → w.heap.size ≤ q := fun q hq => ((MX.out.row u.parent).lt q hq).1
          exact ⟨k + 1, rfl, Nat.le_refl _, hlt, below_grown' (below_grown' BX.out (grownDA hgrow) hlow) hg7 (fun q hq => by simp at hq; omega), _, _, MP⟩
        clear hown' hgrow hat hlt6 g1 hrun hown7 hg7
        go_wp2_with fail
        go_roundg (l.length - (k + 1))
        case rel => exact NM.out
        case measure => have := HM.out; omega
    · obtain rfl : k = l.length := by omega
      have lk := look_belowR (W := wr) MI.out.map (s := ⟨#[]⟩) (by decide) (MI.out.at' ⟨#[]⟩ trivial)
      obtain ⟨vo, vc, hV⟩ := (irow_of_own (MI.out.row ⟨#[]⟩)).shape
      have S0 := Lib.hid (show HeadRel w l ns l.length (.slice none 0 0) (V ⟨#[]⟩) wr from by
        refine ⟨[], kidI l ⟨#[]⟩, d, fun x => if x = ⟨#[]⟩ then nilS else V x, Nat.sub_le _ _, HS.start HR.out ns, BR.out, IOwn_nil _ _, ?_, ?_, by simp [Value.ownBlock], MI.out.off _, fun q hq => by (simp [Value.ownBlock] at hq), fun x q hq => by simp [Value.ownBlock], fun x q hq => ?_⟩
        · have := QRow.of_own (MI.out.row ⟨#[]⟩)
          rwa [kidTo_all] at this
        · have := MI.out.forget ⟨#[]⟩
          rw [left_start]
          simp only [kidTo_all, true_and] at this
          exact this
        · by_cases e : x = ⟨#[]⟩
          · simp [e, Value.ownBlock] at hq
          · simp only [if_neg e] at hq
            exact MI.out.apart x ⟨#[]⟩ q e hq)
      rw [hV] at lk S0
      clear MI BR hV
      go_wp2_with fail
      go_loopg [8, 9] l.length (fun m fv rv wr => HeadRel w l ns m fv rv wr)
      case atStart => exact S0.out
      case round =>
        obtain ⟨P, Q, d, V, hm, G⟩ := hrel
        have HM := Lib.hid hm
        have GR := Lib.hid G
        clear hm G S0
        obtain ⟨ro, rc, rfl⟩ := GR.out.row.shape
        obtain ⟨fo, fc, rfl⟩ := (irow_of_own GR.out.own).shape
        have LEN := Lib.hid (GR.out.hs.len HR.out)
        cases Q with
        | nil =>
          have EQ := Lib.hid (⟨P, GR.out.hs, GR.out.own⟩ : ∃ P, HS l ns P [] ∧ IOwn wr w.heap.size (headL ns P) (.slice fo (headL ns P).length fc))
          go_wp2_with fail
          go_ret
          exact ⟨P, _, rfl, GR.out.below, GR.out.hs, GR.out.own⟩
        | cons u Q =>
          have gp : (0 : Int) < ((u :: Q).length : Int) := by rw [List.length_cons]; omega
          have gq : 1 ≤ (u :: Q).length := by simp
          have ul := GR.out.hs.sub u (by simp)
          have NS := Lib.hid (show u.name.size ≤ maxLen by have := HZ.out u ul; unfold maxLen; omega)
          have PL := Lib.hid (show (headL ns P).length ≤ 1000 from Nat.le_trans (headL_len ns P) (by have := LEN.out; omega))
          have QL := Lib.hid (show (u :: Q).length ≤ 1000 from by have := LEN.out; omega)
          have KL := Lib.hid (show (kidI l u.name).length ≤ 1000 from by rw [← kidTo_all]; exact Nat.le_trans (kidTo_len _ _ _) (by omega))
          obtain ⟨qg, qo, qc, eq, hat⟩ := GR.out.row.head
          simp only [Value.slice.injEq, true_and] at eq
          obtain ⟨rfl, rfl⟩ := eq
          obtain ⟨k0, k1, k2, k3, k4, k5, k6, k7, k8, k9, k10, k11⟩ := hat
          obtain ⟨qn, hqn⟩ : ∃ qn, qn = (u :: Q).length := ⟨_, rfl⟩
          have HQN := Lib.hid hqn
          rw [← hqn] at gp gq GR QL ⊢
          clear hqn ul
          go_upto_region 1 with fail
          have GX := Lib.hid (GR.out.alloc (.cells #[.string u.name, .string u.parent, .int .i64 u.lim.c, .int .i64 u.lim.m, .int .i64 u.lim.p, .int .i64 u.own.c, .int .i64 u.own.m, .int .i64 u.own.p, .int .i64 u.sub.c, .int .i64 u.sub.m, .int .i64 u.sub.p, .int .i64 u.ver] 40))
          have NX := Lib.hid (heap_alloc_new wr (.cells #[.string u.name, .string u.parent, .int .i64 u.lim.c, .int .i64 u.lim.m, .int .i64 u.lim.p, .int .i64 u.own.c, .int .i64 u.own.m, .int .i64 u.own.p, .int .i64 u.sub.c, .int .i64 u.sub.m, .int .i64 u.sub.p, .int .i64 u.ver] 40))
          have p0 : (wr.alloc (.cells #[.string u.name, .string u.parent, .int .i64 u.lim.c, .int .i64 u.lim.m, .int .i64 u.lim.p, .int .i64 u.own.c, .int .i64 u.own.m, .int .i64 u.own.p, .int .i64 u.sub.c, .int .i64 u.sub.m, .int .i64 u.sub.p, .int .i64 u.ver] 40)).cell? ⟨wr.heap.size, 0, none⟩ = some (.string u.name) := by rw [cell_of_row _ _ 0 _ _ _ NX.out]; rfl
          have p1 : (wr.alloc (.cells #[.string u.name, .string u.parent, .int .i64 u.lim.c, .int .i64 u.lim.m, .int .i64 u.lim.p, .int .i64 u.own.c, .int .i64 u.own.m, .int .i64 u.own.p, .int .i64 u.sub.c, .int .i64 u.sub.m, .int .i64 u.sub.p, .int .i64 u.ver] 40)).cell? ⟨wr.heap.size, 1, none⟩ = some (.string u.parent) := by rw [cell_of_row _ _ 1 _ _ _ NX.out]; rfl
          have p2 : (wr.alloc (.cells #[.string u.name, .string u.parent, .int .i64 u.lim.c, .int .i64 u.lim.m, .int .i64 u.lim.p, .int .i64 u.own.c, .int .i64 u.own.m, .int .i64 u.own.p, .int .i64 u.sub.c, .int .i64 u.sub.m, .int .i64 u.sub.p, .int .i64 u.ver] 40)).cell? ⟨wr.heap.size, 2, none⟩ = some (.int .i64 u.lim.c) := by rw [cell_of_row _ _ 2 _ _ _ NX.out]; rfl
          have p3 : (wr.alloc (.cells #[.string u.name, .string u.parent, .int .i64 u.lim.c, .int .i64 u.lim.m, .int .i64 u.lim.p, .int .i64 u.own.c, .int .i64 u.own.m, .int .i64 u.own.p, .int .i64 u.sub.c, .int .i64 u.sub.m, .int .i64 u.sub.p, .int .i64 u.ver] 40)).cell? ⟨wr.heap.size, 3, none⟩ = some (.int .i64 u.lim.m) := by rw [cell_of_row _ _ 3 _ _ _ NX.out]; rfl
          have p4 : (wr.alloc (.cells #[.string u.name, .string u.parent, .int .i64 u.lim.c, .int .i64 u.lim.m, .int .i64 u.lim.p, .int .i64 u.own.c, .int .i64 u.own.m, .int .i64 u.own.p, .int .i64 u.sub.c, .int .i64 u.sub.m, .int .i64 u.sub.p, .int .i64 u.ver] 40)).cell? ⟨wr.heap.size, 4, none⟩ = some (.int .i64 u.lim.p) := by rw [cell_of_row _ _ 4 _ _ _ NX.out]; rfl
          have p5 : (wr.alloc (.cells #[.string u.name, .string u.parent, .int .i64 u.lim.c, .int .i64 u.lim.m, .int .i64 u.lim.p, .int .i64 u.own.c, .int .i64 u.own.m, .int .i64 u.own.p, .int .i64 u.sub.c, .int .i64 u.sub.m, .int .i64 u.sub.p, .int .i64 u.ver] 40)).cell? ⟨wr.heap.size, 5, none⟩ = some (.int .i64 u.own.c) := by rw [cell_of_row _ _ 5 _ _ _ NX.out]; rfl
          have p6 : (wr.alloc (.cells #[.string u.name, .string u.parent, .int .i64 u.lim.c, .int .i64 u.lim.m, .int .i64 u.lim.p, .int .i64 u.own.c, .int .i64 u.own.m, .int .i64 u.own.p, .int .i64 u.sub.c, .int .i64 u.sub.m, .int .i64 u.sub.p, .int .i64 u.ver] 40)).cell? ⟨wr.heap.size, 6, none⟩ = some (.int .i64 u.own.m) := by rw [cell_of_row _ _ 6 _ _ _ NX.out]; rfl
          have p7 : (wr.alloc (.cells #[.string u.name, .string u.parent, .int .i64 u.lim.c, .int .i64 u.lim.m, .int .i64 u.lim.p, .int .i64 u.own.c, .int .i64 u.own.m, .int .i64 u.own.p, .int .i64 u.sub.c, .int .i64 u.sub.m, .int .i64 u.sub.p, .int .i64 u.ver] 40)).cell? ⟨wr.heap.size, 7, none⟩ = some (.int .i64 u.own.p) := by rw [cell_of_row _ _ 7 _ _ _ NX.out]; rfl
          have p8 : (wr.alloc (.cells #[.string u.name, .string u.parent, .int .i64 u.lim.c, .int .i64 u.lim.m, .int .i64 u.lim.p, .int .i64 u.own.c, .int .i64 u.own.m, .int .i64 u.own.p, .int .i64 u.sub.c, .int .i64 u.sub.m, .int .i64 u.sub.p, .int .i64 u.ver] 40)).cell? ⟨wr.heap.size, 8, none⟩ = some (.int .i64 u.sub.c) := by rw [cell_of_row _ _ 8 _ _ _ NX.out]; rfl
          have p9 : (wr.alloc (.cells #[.string u.name, .string u.parent, .int .i64 u.lim.c, .int .i64 u.lim.m, .int .i64 u.lim.p, .int .i64 u.own.c, .int .i64 u.own.m, .int .i64 u.own.p, .int .i64 u.sub.c, .int .i64 u.sub.m, .int .i64 u.sub.p, .int .i64 u.ver] 40)).cell? ⟨wr.heap.size, 9, none⟩ = some (.int .i64 u.sub.m) := by rw [cell_of_row _ _ 9 _ _ _ NX.out]; rfl
          have p10 : (wr.alloc (.cells #[.string u.name, .string u.parent, .int .i64 u.lim.c, .int .i64 u.lim.m, .int .i64 u.lim.p, .int .i64 u.own.c, .int .i64 u.own.m, .int .i64 u.own.p, .int .i64 u.sub.c, .int .i64 u.sub.m, .int .i64 u.sub.p, .int .i64 u.ver] 40)).cell? ⟨wr.heap.size, 10, none⟩ = some (.int .i64 u.sub.p) := by rw [cell_of_row _ _ 10 _ _ _ NX.out]; rfl
          have p11 : (wr.alloc (.cells #[.string u.name, .string u.parent, .int .i64 u.lim.c, .int .i64 u.lim.m, .int .i64 u.lim.p, .int .i64 u.own.c, .int .i64 u.own.m, .int .i64 u.own.p, .int .i64 u.sub.c, .int .i64 u.sub.m, .int .i64 u.sub.p, .int .i64 u.ver] 40)).cell? ⟨wr.heap.size, 11, none⟩ = some (.int .i64 u.ver) := by rw [cell_of_row _ _ 11 _ _ _ NX.out]; rfl
          have HBX := Lib.hid (show wr.heap.size < (wr.alloc (.cells #[.string u.name, .string u.parent, .int .i64 u.lim.c, .int .i64 u.lim.m, .int .i64 u.lim.p, .int .i64 u.own.c, .int .i64 u.own.m, .int .i64 u.own.p, .int .i64 u.sub.c, .int .i64 u.sub.m, .int .i64 u.sub.p, .int .i64 u.ver] 40)).heap.size from by simp)
          have XG := Lib.hid (show ∀ k, (Value.slice (some ⟨qg, qo, none⟩) qn rc).ownBlock = some k → k < wr.heap.size from fun k hk => (GR.out.row.lt k hk).2)
          have XF := Lib.hid (show ∀ k, (Value.slice fo (headL ns P).length fc).ownBlock = some k → k < wr.heap.size from fun k hk => (World.ownsRow.lt GR.out.own k hk).2)
          clear k0 k1 k2 k3 k4 k5 k6 k7 k8 k9 k10 k11 NX GR
          generalize hbx : wr.heap.size = bx at *
          generalize wr.alloc (.cells #[.string u.name, .string u.parent, .int .i64 u.lim.c, .int .i64 u.lim.m, .int .i64 u.lim.p, .int .i64 u.own.c, .int .i64 u.own.m, .int .i64 u.own.p, .int .i64 u.sub.c, .int .i64 u.sub.m, .int .i64 u.sub.p, .int .i64 u.ver] 40) = wx at *
          have SX := Lib.hid (SS.out wx GX.out.below)
          have GX2 := Lib.hid (GX.out.alloc (.cells #[] 69))
          have BW1 := Lib.hid (below_al (Below.refl wx.heap.size wx) (.cells #[] 69))
          have BW2 := Lib.hid (below_al (Below.refl (wx.alloc (.cells #[] 69)).heap.size (wx.alloc (.cells #[] 69))) (.cells #[.string u.name, .string u.parent, .int .i64 u.lim.c, .int .i64 u.lim.m, .int .i64 u.lim.p, .int .i64 u.own.c, .int .i64 u.own.m, .int .i64 u.own.p, .int .i64 u.sub.c, .int .i64 u.sub.m, .int .i64 u.sub.p, .int .i64 u.ver] 40))
          have Z1 : (wx.alloc (.cells #[] 69)).heap.size = wx.heap.size + 1 := by simp
          have NW := Lib.hid (news_new (wx.alloc (.cells #[] 69)) #[.string u.name, .string u.parent, .int .i64 u.lim.c, .int .i64 u.lim.m, .int .i64 u.lim.p, .int .i64 u.own.c, .int .i64 u.own.m, .int .i64 u.own.p, .int .i64 u.sub.c, .int .i64 u.sub.m, .int .i64 u.sub.p, .int .i64 u.ver] 40)
          rw [Z1] at NW
          have HZ1 := Lib.hid Z1
          clear Z1
          have OW := Lib.hid (GX2.out.alloc (.cells #[.string u.name, .string u.parent, .int .i64 u.lim.c, .int .i64 u.lim.m, .int .i64 u.lim.p, .int .i64 u.own.c, .int .i64 u.own.m, .int .i64 u.own.p, .int .i64 u.sub.c, .int .i64 u.sub.m, .int .i64 u.sub.p, .int .i64 u.ver] 40))
          have q0 := hold BW1.out p0
          have q1 := hold BW1.out p1
          have q2 := hold BW1.out p2
          have q3 := hold BW1.out p3
          have q4 := hold BW1.out p4
          have q5 := hold BW1.out p5
          have q6 := hold BW1.out p6
          have q7 := hold BW1.out p7
          have q8 := hold BW1.out p8
          have q9 := hold BW1.out p9
          have q10 := hold BW1.out p10
          have q11 := hold BW1.out p11
          obtain ⟨so, hso⟩ : ∃ so, (if rc = 1 then some (⟨qg, qo, none⟩ : Addr) else (some (⟨qg, qo, none⟩ : Addr)).map (·.add (1 * 12))) = so := ⟨_, rfl⟩
          have HSO := Lib.hid hso
          clear hso
          cases hb : inB ns u.name with
          | true =>
            have HB := Lib.hid hb
            have lkn := SX.out.look NS.out (b := true) (fun _ => inB_iff.1 hb) (fun e => by cases e)
            have SL : ∀ W, (Instr.slice 22 (.slice (some ⟨qg, qo, none⟩) qn rc) (some (.int .i64 1)) none none).run Try.prog W = .ok (.slice so (qn - 1) (rc - 1)) W := fun W => by
              have := isl_from (some ⟨qg, qo, none⟩) qn rc 1 gq W
              rw [show sliced (some ⟨qg, qo, none⟩) 1 qn rc 12 = .slice so (qn - 1) (rc - 1) by unfold sliced; rw [HSO.out]] at this
              exact this
            clear hb
            go_wp2_with (at_builtin; go_loud (refine wpList_append_lies _ rfl _ _ 22 rfl w.heap.size 40 i0 _ 12 112 Try.underlying22 hi0 hz0 hz1 hz2 rfl (by decide) (.slice fo (headL ns P).length fc) (headL ns P).length (i12s (headL ns P)) rfl OW.out.own ⟨wx.heap.size + 1, 0, none⟩ 1 1 u.cells (by rfl) (by rfl) NW.out (i12c_one u) (by decide) (by have := PL.out; unfold maxLen; omega) (by have := PL.out; omega) OW.out.below.size _ rfl ?_))
            intro gg cc w6 hown6 hgrow6 hat6 hlt6
            have NM := Lib.hid (show HeadRel w l ns (l.length - (P.length + 1)) (.slice (some ⟨gg, 0, none⟩) ((headL ns P).length + 1) cc) (.slice so (qn - 1) (rc - 1)) w6 from by
              refine ⟨P ++ [u], Q, d, V, by rw [List.length_append]; exact Nat.le_refl _, OW.out.take HB.out hgrow6 ?_ ?_ ?_ ?_⟩
              · have e1 : i12s (headL ns P ++ [u]) = i12s (headL ns P) ++ u.cells := by rw [i12s_app]; simp [i12s]
                unfold IOwn
                rw [e1, List.length_append]
                exact hown6
              · rcases hat6 with e | e
                · exact .inl e
                · exact .inr ⟨gg, rfl, by rw [e]; simp⟩
              · intro hq
                have := hq.drop1
                rw [show sliced (some ⟨qg, qo, none⟩) 1 qn rc 12 = .slice so (qn - 1) (rc - 1) by unfold sliced; rw [HSO.out]] at this
                exact this
              · have := block_sliced (some ⟨qg, qo, none⟩) 1 qn rc
                rwa [show sliced (some ⟨qg, qo, none⟩) 1 qn rc 12 = .slice so (qn - 1) (rc - 1) by unfold sliced; rw [HSO.out]] at this)
            clear hown6 hgrow6 hat6 hlt6
            go_wp2_with fail
            go_roundg (l.length - (P.length + 1))
            case rel => exact NM.out
            case measure => exact less_next HM.out LEN.out
          | false =>
            have HB := Lib.hid hb
            have lkn := SX.out.look NS.out (b := false) (fun e => by cases e) (fun _ h => by rw [inB_iff.2 h] at hb; cases hb)
            have LF := Lib.hid (GX2.out.hs.left HR.out)
            have UN := Lib.hid (name_ne' HR.out (GX2.out.hs.sub u (by simp)))
            have IK := Lib.hid (show IRow (wx.alloc (.cells #[] 69)) (kidI l u.name) (V u.name) from by
              have := irow_of_own (GX2.out.map.row u.name)
              rwa [LF.out] at this)
            obtain ⟨bo, bc, hV⟩ := IK.out.shape
            have lkb := look_belowR (W := wx.alloc (.cells #[] 69)) GX2.out.map.map NS.out (GX2.out.map.at' u.name UN.out)
            rw [hV] at lkb IK
            obtain ⟨S1, S2⟩ := IK.out.src
            have s1 := Lib.hid S1
            have s2 := Lib.hid S2
            clear S1 S2 hb
            go_wp2_with (at_builtin; refine wpList_append_q _ rfl _ _ rfl rfl (B := w.heap.size) (l := u :: Q) (.slice (some ⟨qg, qo, none⟩) qn rc) rfl GX2.out.row (kidI l u.name) bo bc rfl s1.out s2.out (by have := HQN.out; have := QL.out; have := KL.out; omega) GX2.out.below.size ?_)
            intro v6 w6 hq6 hg6 hat6
            obtain ⟨ro6, rc6, rfl⟩ := hq6.shape
            have Q6 := Lib.hid hq6
            have G6 := Lib.hid hg6
            have A6 := Lib.hid hat6
            have M6 := Lib.hid (GX2.out.map.kept hg6 GX2.out.a2 (fun x k hk => GX2.out.a5 x k hk))
            have n6 := (World.cell?_of_block (a := ⟨bx, 0, none⟩) (hg6.block bx (by have := BW1.out.size; have := HBX.out; omega) (fun e => by have := XG.out bx e.symm; omega))).trans q0
            obtain ⟨q6, hq6n⟩ : ∃ q6, q6 = (u :: (Q ++ kidI l u.name)).length := ⟨_, rfl⟩
            have HQ6 := Lib.hid hq6n
            have gq6 : 1 ≤ q6 := by rw [hq6n]; simp
            rw [← hq6n] at Q6 A6 ⊢
            obtain ⟨so6, hso6⟩ : ∃ so6, sliced ro6 1 q6 rc6 12 = .slice so6 (q6 - 1) (rc6 - 1) := ⟨_, rfl⟩
            have HS6 := Lib.hid hso6
            have SL : ∀ W, (Instr.slice 22 (.slice ro6 q6 rc6) (some (.int .i64 1)) none none).run Try.prog W = .ok (.slice so6 (q6 - 1) (rc6 - 1)) W := fun W => by
              have := isl_from ro6 q6 rc6 1 gq6 W
              rw [HS6.out] at this
              exact this
            clear hq6 hg6 hat6 hq6n hso6
            go_wp2_with (at_delete; refine wpList_delete_own _ rfl _ _ 68 9 rfl 22 strKeyedW Try.underlying68 heldW w.heap.size l.length d rfl M6.out.map (.string u.name) (keyW u.name) rfl (Go.WideMaps.keyOf_string_mk Try.underlying9 NS.out) ?_)
            intro w7 hown7 hturn7
            have NM := Lib.hid (show HeadRel w l ns (l.length - (P.length + 1)) (.slice fo (headL ns P).length fc) (.slice so6 (q6 - 1) (rc6 - 1)) w7 from by
              refine ⟨P ++ [u], Q ++ kidI l u.name, _, _, by rw [List.length_append]; exact Nat.le_refl _, GX2.out.grow HR.out HB.out G6.out Q6.out (by rw [HZ1.out]; exact A6.out) hown7 hturn7.grown ?_ ?_⟩
              · intro hq
                have := QRow.drop1 (l := Q ++ kidI l u.name) (x := u) hq
                rw [HS6.out] at this
                exact this
              · have := block_sliced ro6 1 q6 rc6
                rwa [HS6.out] at this)
            clear hown7 hturn7
            go_wp2_with fail
            go_roundg (l.length - (P.length + 1))
            case rel => exact NM.out
            case measure => exact less_next HM.out LEN.out
end
end Go.Proofs.Ytffmmoligdoclaa
