/- Package tree: for each parent the places of those below it (branch). -/
import Derived.Test.YtmpakgabehplbaaTrI
import Derived.Test.YtmpakgabehplbaaMapI
namespace Go.Proofs.Ytmpakgabehplbaa
open Go.RowKit
set_option linter.unusedVariables false
set_option linter.unusedSimpArgs false
/-- The places of those whose Parent has that name, of the first k. -/
def kidsT (l : List I12) (s : ByteArray) (k : Nat) : List Nat := (List.range k).filter fun i => match l[i]? with | some x => decide (x.parent = s) | none => false
theorem kidsT_step {l : List I12} {s : ByteArray} {k : Nat} {x : I12} (hx : l[k]? = some x) : kidsT l s (k + 1) = if x.parent = s then kidsT l s k ++ [k] else kidsT l s k := by
  unfold kidsT
  rw [List.range_succ, List.filter_append]
  by_cases h : x.parent = s
  · simp [hx, h]
  · simp [hx, h]
theorem kidsT_mem {l : List I12} {s : ByteArray} {k i : Nat} : i ∈ kidsT l s k ↔ i < k ∧ ∃ x, l[i]? = some x ∧ x.parent = s := by
  unfold kidsT
  rw [List.mem_filter, List.mem_range]
  refine and_congr_right fun h => ?_
  cases hx : l[i]? with
  | none => simp
  | some x => simp
theorem kidsT_len (l : List I12) (s : ByteArray) (k : Nat) : (kidsT l s k).length ≤ k := by
  unfold kidsT
  refine Nat.le_trans (List.length_filter_le ..) ?_
  rw [List.length_range]; exact Nat.le_refl _
theorem grown_setC (w : World) (a : Addr) (u : Value) : w.grownBy (w.setCell a u) (some a.block) :=
  ⟨rfl, rfl, rfl, by simp, fun k _ hk => heap_setCell_other w a k u (fun e => hk (by rw [e]))⟩
theorem MapIn.set2 {w : World} {B g n q : Nat} {d : DataW Value} {V : ByteArray → Value} {L : ByteArray → List Nat} (h : MapIn w B g n d V L) (hq : q < B) (hg : B ≤ g) (a b : Value) : MapIn ((w.setCell ⟨q, 0, none⟩ a).setCell ⟨q, 1, none⟩ b) B g n d V L := by
  have key : ∀ x k, (V x).ownBlock = some k → some q ≠ some k := fun x k hk e => by
    have := ((h.row x).lt k hk).1
    simp at e; omega
  exact (h.kept (grown_setC w ⟨q, 0, none⟩ a) (fun e => by simp at e; omega) key).kept (grown_setC _ ⟨q, 1, none⟩ b) (fun e => by simp at e; omega) key
def BraRel (w : World) (l : List I12) (m : Nat) (iv : Value) (wr : World) : Prop :=
  ∃ k : Nat, iv = .int .i64 k ∧ l.length - k ≤ m ∧ k ≤ l.length ∧ Below w.heap.size w wr ∧ ∃ d V, MapIn wr w.heap.size w.heap.size k d V (fun s => kidsT l s k)
section
variable (w : World)
set_option maxHeartbeats 4000000 in
set_option maxRecDepth 20000 in
theorem pbranch (l : List I12) (lv : Value) (h : IRow w l lv) (hl : l.length ≤ 1000) (hz : ∀ u ∈ l, u.name.size ≤ 1000000 ∧ u.parent.size ≤ 1000000) :
    Calls Try.prog 80 #[lv] w fun e w' => ∃ g, e = .returned (.agg #[lv, .map (some g)]) ∧ Below w.heap.size w w' ∧ ∃ d V, MapIn w' g g l.length d V (fun s => kidsT l s l.length) := by
  have HZ := Lib.hid hz
  obtain ⟨i0, hi0, hz0, hz1, hz2⟩ := info_partsT info_int
  have BO := Lib.hid (below_al (Below.refl w.heap.size w) (.cells #[.slice none 0 0, .map none] 106))
  have HR := Lib.hid (h.below BO.out)
  have X0 := Lib.hid (heap_alloc_new w (.cells #[.slice none 0 0, .map none] 106))
  have M0 := Lib.hid (MapIn.new (w.alloc (.cells #[.slice none 0 0, .map none] 106)))
  have B0 := Lib.hid (below_al (Below.refl (w.alloc (.cells #[.slice none 0 0, .map none] 106)).heap.size (w.alloc (.cells #[.slice none 0 0, .map none] 106))) (.map #[] 0))
  obtain ⟨ao, cap, rfl⟩ := h.shape
  clear h hz
  have hmm := @run_makeMap Try.prog
  go_enter Try.func80, Try.ntmps80
  go_wp2_with fail
  have SZ : (w.alloc (.cells #[.slice none 0 0, .map none] 106)).heap.size = w.heap.size + 1 := by simp
  rw [← SZ]
  generalize w.alloc (.cells #[.slice none 0 0, .map none] 106) = w1 at *
  obtain ⟨_, _, e9, h1, h2, hat⟩ := HR.out
  simp only [Value.slice.injEq, true_and] at e9
  obtain ⟨rfl, rfl⟩ := e9
  have HAT := Lib.hid hat
  have SZ' := Lib.hid SZ
  generalize hqb : w.heap.size = qb at *
  have HQB := Lib.hid hqb
  clear hat h1 h2 SZ hqb
  go_loopg [9] l.length (fun m iv wr => BraRel w1 l m iv wr)
  case atStart => exact ⟨0, rfl, Nat.le_refl _, Nat.zero_le _, B0.out, _, _, M0.out⟩
  case round =>
    obtain ⟨k, rfl, hm, hk, hb, d, V, hM⟩ := hrel
    have HM := Lib.hid hm
    have BR := Lib.hid hb
    have MI := Lib.hid hM
    clear hm hb hM
    by_cases hlt : k < l.length
    · obtain ⟨u, hu⟩ : ∃ u, l[k]? = some u := ⟨_, List.getElem?_eq_getElem hlt⟩
      have HU := Lib.hid hu
      obtain ⟨g, o, rfl, hc⟩ := HAT.out k u hu
      obtain ⟨k0, k1, k2, k3, k4, k5, k6, k7, k8, k9, k10, k11⟩ := hc.below BR.out
      have PS := Lib.hid (show u.parent.size ≤ maxLen by have := HZ.out u (List.mem_of_getElem? hu); unfold maxLen; omega)
      clear hu hc
      go_upto_region 1 with fail
      have BX := Lib.hid (below_al BR.out (.cells #[.string u.name, .string u.parent, .int .i64 u.lim.c, .int .i64 u.lim.m, .int .i64 u.lim.p, .int .i64 u.own.c, .int .i64 u.own.m, .int .i64 u.own.p, .int .i64 u.sub.c, .int .i64 u.sub.m, .int .i64 u.sub.p, .int .i64 u.ver] 52))
      have NX := Lib.hid (heap_alloc_new wr (.cells #[.string u.name, .string u.parent, .int .i64 u.lim.c, .int .i64 u.lim.m, .int .i64 u.lim.p, .int .i64 u.own.c, .int .i64 u.own.m, .int .i64 u.own.p, .int .i64 u.sub.c, .int .i64 u.sub.m, .int .i64 u.sub.p, .int .i64 u.ver] 52))
      have MX := Lib.hid (MI.out.alloc (.cells #[.string u.name, .string u.parent, .int .i64 u.lim.c, .int .i64 u.lim.m, .int .i64 u.lim.p, .int .i64 u.own.c, .int .i64 u.own.m, .int .i64 u.own.p, .int .i64 u.sub.c, .int .i64 u.sub.m, .int .i64 u.sub.p, .int .i64 u.ver] 52))
      have p1 : (wr.alloc (.cells #[.string u.name, .string u.parent, .int .i64 u.lim.c, .int .i64 u.lim.m, .int .i64 u.lim.p, .int .i64 u.own.c, .int .i64 u.own.m, .int .i64 u.own.p, .int .i64 u.sub.c, .int .i64 u.sub.m, .int .i64 u.sub.p, .int .i64 u.ver] 52)).cell? ⟨wr.heap.size, 1, none⟩ = some (.string u.parent) := by
        rw [cell_of_row _ _ 1 _ _ _ NX.out]; rfl
      have GE := Lib.hid BR.out.size
      have OB := Lib.hid (show ∀ q, (V u.parent).ownBlock = some q → q < wr.heap.size from fun q hq => ((MI.out.row u.parent).lt q hq).2)
      have KS := Lib.hid (show ∀ s, kidsT l s (k + 1) = if s = u.parent then kidsT l u.parent k ++ [k] else kidsT l s k from fun s => by
        rw [kidsT_step HU.out]
        by_cases e : u.parent = s
        · subst e; simp
        · rw [if_neg e, if_neg (fun h => e h.symm)])
      clear k0 k1 k2 k3 k4 k5 k6 k7 k8 k9 k10 k11 MI BR NX
      generalize hbx : wr.heap.size = bx at *
      generalize wr.alloc (.cells #[.string u.name, .string u.parent, .int .i64 u.lim.c, .int .i64 u.lim.m, .int .i64 u.lim.p, .int .i64 u.own.c, .int .i64 u.own.m, .int .i64 u.own.p, .int .i64 u.sub.c, .int .i64 u.sub.m, .int .i64 u.sub.p, .int .i64 u.ver] 52) = wx at *
      obtain ⟨vo, vc, hV⟩ := own_shape (MX.out.row u.parent)
      have HO := Lib.hid (MX.out.row u.parent)
      have AT := Lib.hid (MX.out.at' u.parent)
      have lk0 := look_below (W := wx.drew) MX.out.map PS.out AT.out
      have lk1 := look_below (W := (wx.alloc (.cells #[.int .i64 (k : Int)] 3)).drew) (MX.out.alloc _).map PS.out AT.out
      rw [hV] at lk0 lk1 HO AT
      have a1 := hold (below_al (Below.refl wx.heap.size wx) (.cells #[.int .i64 (k : Int)] 3)) p1
      have UP := Lib.hid (show ∀ (O : Obj) (w6 : World) (v : Value), (wx.alloc O).drew.grownBy w6 (V u.parent).ownBlock → w6.cell? ⟨bx, 1, none⟩ = some (.string u.parent) ∧ ∃ w7, (Instr.mapUpdate 104 (.map (some w1.heap.size)) (.string u.parent) v).run Try.prog w6 = .ok () w7 ∧ w7.ownsMap Try.prog 9 heldW w1.heap.size (k + 1) (d.put (keyW u.parent) (.held v)) ∧ w6.grownBy w7 (some w1.heap.size) from fun O w6 v hg => by
        have hg2 := grownDA hg
        have hlt2 := World.block_lt_of_cell? _ _ p1
        refine ⟨(World.cell?_of_block (a := ⟨bx, 1, none⟩) (hg2.block bx hlt2 fun e => ?_)).trans p1, ?_⟩
        · have := OB.out bx e.symm
          omega
        · exact put_below (World.ownsMap.kept MX.out.map hg2 (fun e => MX.out.off u.parent e.symm)) (by omega) PS.out v)
      have LL := Lib.hid (show (kidsT l u.parent k).length ≤ 1000 from Nat.le_trans (kidsT_len _ _ _) (by omega))
      go_region_law (first | (refine step_append_lies _ (by rfl) _ _ _ (by rfl) w1.heap.size 3 i0 (.int .i64 0) 1 8 Try.underlying74 hi0 hz0 hz1 hz2 rfl (by decide) (.slice vo (kidsT l u.parent k).length vc) (kidsT l u.parent k).length (natC (kidsT l u.parent k)) (by rfl) (by exact (World.ownsRow.alloc HO.out _)) ⟨wx.heap.size, 0, none⟩ 1 1 [.int .i64 (k : Int)] (by rfl) (by rfl) (by exact (news_new wx #[.int .i64 (k : Int)] 3)) (by simp [Value.oneCell']) (by decide) (by have := LL.out; unfold maxLen; omega) (by have := LL.out; omega) (by have := BX.out.size; simp; omega) (wx.heap.size + 1) (by simp) ?_; intro gg cc w6 hown' hgrow hat hlt6; rw [← hV] at hgrow; obtain ⟨g1, w7, hrun, hown7, hg7⟩ := UP.out _ _ (.slice (some ⟨gg, 0, none⟩) ((kidsT l u.parent k).length + 1) cc) hgrow))
      all_goals
        have NM : Hid (BraRel w1 l (l.length - (k + 1)) (.int .i64 ((k + 1 : Nat) : Int)) w7) := by
          have hg6 : (wx.alloc (.cells #[.int .i64 (k : Int)] 3)).grownBy w6 (V u.parent).ownBlock := ⟨hgrow.os, hgrow.tape, hgrow.output, hgrow.size, hgrow.block⟩
          have ho2 : w6.ownsRow w1.heap.size 3 1 (.slice (some ⟨gg, 0, none⟩) ((kidsT l u.parent k).length + 1) cc) (kidsT l u.parent k ++ [k]).length (natC (kidsT l u.parent k ++ [k])) := by
            rw [List.length_append, natC_app]; exact hown'
          have MP := (MX.out.alloc (.cells #[.int .i64 (k : Int)] 3)).put hg6 hown7 hg7 ho2 (by
            rcases hat with h | h
            · left; rw [hV, h]; rfl
            · right; rw [h]; simp [Value.ownBlock]) (by simp)
          rw [show (fun x => if x = u.parent then kidsT l u.parent k ++ [k] else kidsT l x k) = fun s => kidsT l s (k + 1) from funext fun s => (KS.out s).symm] at MP
          have hlow : ∀ q, (V u.parent).ownBlock = some q → w1.heap.size ≤ q := fun q hq => ((MX.out.row u.parent).lt q hq).1
          exact ⟨k + 1, rfl, Nat.le_refl _, hlt, below_grown' (below_grown' BX.out (grownDA hgrow) hlow) hg7 (fun q hq => by simp at hq; omega), _, _, MP⟩
        clear hown' hgrow hat hlt6 g1 hrun hown7 hg7
        go_wp2_with fail
        go_roundg (l.length - (k + 1))
        case rel => exact NM.out
        case measure => have := HM.out; omega
    · obtain rfl : k = l.length := by omega
      have ME := Lib.hid MI.out
      have XW := Lib.hid ((BR.out.block qb (by have := SZ'.out; omega)).trans X0.out)
      have e0 : wr.cell? ⟨qb, 0, none⟩ = some (.slice none 0 0) := (cell_of_row _ _ 0 _ _ _ XW.out).trans rfl
      have e1 : wr.cell? ⟨qb, 1, none⟩ = some (.map none) := (cell_of_row _ _ 1 _ _ _ XW.out).trans rfl
      have f0 : wr.frozen? ⟨qb, 0, none⟩ = false := by have := XW.out; simp [World.frozen?, this]
      have f1 : wr.frozen? ⟨qb, 1, none⟩ = false := by have := XW.out; simp [World.frozen?, this]
      go_wp2_with fail
      have y0 := heap_setCell_same wr qb 0 _ _ (.slice ao l.length cap) XW.out
      have y1 := heap_setCell_same _ qb 1 _ _ (.map (some w1.heap.size)) y0
      have c0 : (wr.setCell ⟨qb, 0, none⟩ (.slice ao l.length cap)).cell? ⟨qb, 0, none⟩ = some (.slice ao l.length cap) := (cell_of_row _ _ 0 _ _ _ y0).trans rfl
      have c1 : ((wr.setCell ⟨qb, 0, none⟩ (.slice ao l.length cap)).setCell ⟨qb, 1, none⟩ (.map (some w1.heap.size))).cell? ⟨qb, 1, none⟩ = some (.map (some w1.heap.size)) := (cell_of_row _ _ 1 _ _ _ y1).trans rfl
      clear y0 y1
      refine bodyPost_ret (v := .agg #[.slice ao l.length cap, .map (some w1.heap.size)]) (by simp [results, Try.results80, go_sem, c0, c1]) rfl ?_
      rw [HQB.out]
      exact ⟨_, rfl, below_set2 (BO.out.trans (BR.out.mono (by have := SZ'.out; omega))) (Nat.le_refl _) _ _, d, V, ME.out.set2 (by have := SZ'.out; omega) (Nat.le_refl _) _ _⟩
end
end Go.Proofs.Ytmpakgabehplbaa
