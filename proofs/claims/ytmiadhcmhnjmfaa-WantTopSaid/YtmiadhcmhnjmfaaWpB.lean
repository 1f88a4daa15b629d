/- Package want: for each parent the places of those below it (a map of rows). -/
import Derived.Test.YtmiadhcmhnjmfaaWpA
import Derived.Test.YtmiadhcmhnjmfaaOwnX
import Derived.Maps.OwnSet
import Derived.Maps.Views
import Derived.StringKeys
import Derived.Deep.RegionLaw
import Derived.Deep.AppendLies
namespace Go.Proofs.Ytmiadhcmhnjmfaa
open Go.RowKit
set_option linter.unusedVariables false
set_option linter.unusedSimpArgs false
def keyW (x : ByteArray) : Lit := .string x.data.toList
theorem keyW_ne {x y : ByteArray} (h : x ≠ y) : keyW x ≠ keyW y := fun e => h (by
  simp only [keyW, Lit.string.injEq] at e
  exact ByteArray.ext (Array.ext' e))
theorem keyW_key (x : ByteArray) : WideAt.IsKeyLit (keyW x) := by simp [keyW, WideAt.IsKeyLit]
theorem strKeyedW : Maps.Keyed Try.prog 9 := Maps.string_keyed Try.underlying9
/-- An entry reads as itself. -/
def heldW (v : Value) : Option (DataW Value × List MemPlace) := some (.held v, [])
abbrev nilS : Value := .slice none 0 0
theorem nilS_run (w : World) : (zeroValue 51).run Try.prog w = .ok nilS w := by kernel_rfl
def natC (ks : List Nat) : List Value := ks.map fun k : Nat => .int .i64 (k : Int)
theorem natC_app (a b : List Nat) : natC (a ++ b) = natC a ++ natC b := by simp [natC]
theorem natC_len (a : List Nat) : (natC a).length = a.length := by simp [natC]
theorem natC_one (l : List Nat) : ∀ u ∈ natC l, u.oneCell' = true := by
  intro u hu
  unfold natC at hu
  obtain ⟨k, -, rfl⟩ := List.mem_map.1 hu
  rfl
/-- The map at block g: d are its entries, V their rows, L what these hold. -/
structure MapIn (w : World) (B g n : Nat) (d : DataW Value) (V : ByteArray → Value) (L : ByteArray → List Nat) : Prop where
  map : w.ownsMap Try.prog 9 heldW g n d
  at' : ∀ x, d.atKey (keyW x) (.held nilS) = .held (V x)
  row : ∀ x, w.ownsRow B 3 1 (V x) (L x).length (natC (L x))
  apart : ∀ x y k, x ≠ y → (V x).ownBlock = some k → (V y).ownBlock ≠ some k
  off : ∀ x, (V x).ownBlock ≠ some g
  nil : ∀ x, L x = [] → V x = nilS
theorem MapIn.lt {w : World} {B g n : Nat} {d : DataW Value} {V : ByteArray → Value} {L : ByteArray → List Nat} (h : MapIn w B g n d V L) : g < w.heap.size := World.ownsMap.lt h.map
theorem ownsMap_below {w w' : World} {g n : Nat} {d : DataW Value} (h : w.ownsMap Try.prog 9 heldW g n d) (hb : w'.heap[g]? = w.heap[g]?) : w'.ownsMap Try.prog 9 heldW g n d := by
  obtain ⟨es, clock, hblk, r⟩ := h
  exact ⟨es, clock, hb.trans hblk, r⟩
theorem MapIn.alloc {w : World} {B g n : Nat} {d : DataW Value} {V : ByteArray → Value} {L : ByteArray → List Nat} (h : MapIn w B g n d V L) (O : Obj) : MapIn (w.alloc O) B g n d V L :=
  ⟨World.ownsMap.alloc h.map O, h.at', fun x => World.ownsRow.alloc (h.row x) O, h.apart, h.off, h.nil⟩
theorem MapIn.new (w : World) : MapIn (w.alloc (.map #[] 0)) w.heap.size w.heap.size 0 (.map []) (fun _ => nilS) (fun _ => []) :=
  ⟨World.ownsMap_made w _ _ _, fun x => rfl, fun x => (own_none _ _ _ _ : World.ownsRow _ _ _ _ _ _ _), fun x y k _ h => by (simp [Value.ownBlock] at h), fun x h => by (simp [Value.ownBlock] at h), fun x _ => rfl⟩
/-- A row with one more is put. -/
theorem MapIn.put {w w6 w7 : World} {B g n : Nat} {d : DataW Value} {V : ByteArray → Value} {L : ByteArray → List Nat} (h : MapIn w B g n d V L) {s : ByteArray} {v : Value} {xs : List Nat}
    (hg6 : w.grownBy w6 (V s).ownBlock) (h7 : w7.ownsMap Try.prog 9 heldW g (n + 1) (d.put (keyW s) (.held v))) (hg7 : w6.grownBy w7 (some g))
    (ho : w6.ownsRow B 3 1 v xs.length (natC xs)) (hat : (V s).ownBlock = v.ownBlock ∨ v.ownBlock = some w.heap.size) (hne : xs ≠ []) :
    MapIn w7 B g (n + 1) (d.put (keyW s) (.held v)) (fun x => if x = s then v else V x) (fun x => if x = s then xs else L x) := by
  have hM : Maps.IsMap d := World.ownsMap.isMap h.map
  have hlt : ∀ x k, (V x).ownBlock = some k → k < w.heap.size := fun x k hk => ((h.row x).lt k hk).2
  have hvg : v.ownBlock ≠ some g := fun e => by
    rcases hat with h1 | h1
    · rw [e] at h1; exact h.off s h1
    · rw [h1] at e
      have := h.lt
      simp at e; omega
  refine ⟨h7, fun x => ?_, fun x => ?_, fun x y k hxy hk => ?_, fun x => ?_, fun x => ?_⟩
  · by_cases hx : x = s
    · subst hx; simp only [if_true]; exact Maps.atKey_put_same hM (keyW_key x) _ _
    · simp only [if_neg hx]; rw [Maps.atKey_put_other (keyW_ne hx)]; exact h.at' x
  · by_cases hx : x = s
    · subst hx; simp only [if_true]; exact ho.kept hg7 (.inr hvg)
    · simp only [if_neg hx]
      refine ((h.row x).kept hg6 ?_).kept hg7 (.inr (h.off x))
      by_cases hn : (V x).ownBlock = none
      · exact .inl hn
      · right
        intro e
        obtain ⟨k, hk⟩ := Option.ne_none_iff_exists'.1 hn
        exact h.apart x s k hx hk (by rw [← e]; exact hk)
  · by_cases hx : x = s
    · subst hx
      simp only [if_true] at hk
      rw [if_neg (fun e => hxy e.symm)]
      intro e
      rcases hat with h1 | h1
      · exact h.apart x y k hxy (h1.trans hk) e
      · rw [h1] at hk
        have := hlt y k e
        simp at hk; omega
    · simp only [if_neg hx] at hk
      by_cases hy : y = s
      · subst hy
        simp only [if_true]
        intro e
        rcases hat with h1 | h1
        · exact h.apart x y k hx hk (h1.trans e)
        · rw [h1] at e
          have := hlt x k hk
          simp at e; omega
      · simp only [if_neg hy]
        exact h.apart x y k hxy hk
  · by_cases hx : x = s
    · simp only [if_pos hx]; exact hvg
    · simp only [if_neg hx]; exact h.off x
  · by_cases hx : x = s
    · simp only [if_pos hx]; intro e; exact absurd e hne
    · simp only [if_neg hx]; exact h.nil x
/-- A row is struck. -/
theorem MapIn.del {w w' : World} {B g n : Nat} {d : DataW Value} {V : ByteArray → Value} {L : ByteArray → List Nat} (h : MapIn w B g n d V L) {s : ByteArray}
    (h' : w'.ownsMap Try.prog 9 heldW g n (d.del (keyW s))) (hg : w.grownBy w' (some g)) :
    MapIn w' B g n (d.del (keyW s)) (fun x => if x = s then nilS else V x) (fun x => if x = s then [] else L x) := by
  refine ⟨h', fun x => ?_, fun x => ?_, fun x y k hxy hk => ?_, fun x => ?_, fun x => ?_⟩
  · by_cases hx : x = s
    · subst hx; simp only [if_true]; exact Maps.atKey_del_same _
    · simp only [if_neg hx]; rw [Maps.atKey_del_other (keyW_ne hx)]; exact h.at' x
  · by_cases hx : x = s
    · simp only [if_pos hx]; exact (own_none _ _ _ _ : World.ownsRow _ _ _ _ _ _ _)
    · simp only [if_neg hx]; exact (h.row x).kept hg (.inr (h.off x))
  · by_cases hx : x = s
    · simp only [if_pos hx] at hk; simp [Value.ownBlock] at hk
    · simp only [if_neg hx] at hk
      by_cases hy : y = s
      · simp only [if_pos hy]; simp [Value.ownBlock]
      · simp only [if_neg hy]; exact h.apart x y k hxy hk
  · by_cases hx : x = s
    · simp only [if_pos hx]; simp [Value.ownBlock]
    · simp only [if_neg hx]; exact h.off x
  · by_cases hx : x = s
    · simp only [if_pos hx]; intro _; trivial
    · simp only [if_neg hx]; exact h.nil x
/-- Other blocks turn. -/
theorem MapIn.kept {w w' : World} {B g n : Nat} {d : DataW Value} {V : ByteArray → Value} {L : ByteArray → List Nat} (h : MapIn w B g n d V L) {row : Option Nat} (hg : w.grownBy w' row) (hr : row ≠ some g) (hv : ∀ x k, (V x).ownBlock = some k → row ≠ some k) : MapIn w' B g n d V L :=
  ⟨World.ownsMap.kept h.map hg (fun e => hr e.symm), h.at', fun x => (h.row x).kept hg (by
    by_cases hn : (V x).ownBlock = none
    · exact .inl hn
    · right
      intro e
      obtain ⟨k, hk⟩ := Option.ne_none_iff_exists'.1 hn
      exact hv x k hk (by rw [← e]; exact hk)), h.apart, h.off, h.nil⟩
theorem look_below {W : World} {g n : Nat} {d : DataW Value} (h : W.ownsMap Try.prog 9 heldW g n d) {s : ByteArray} (hs : s.size ≤ maxLen) {v : Value} (hat : d.atKey (keyW s) (.held nilS) = .held v) :
    (Instr.lookup 62 (.map (some g)) (.string s) false).run Try.prog W = .ok v W := by
  obtain ⟨v', ps, hrun, hv⟩ := World.ownsMap.lookup h strKeyedW Try.underlying62 (nilS_run W) (R := heldW) (zd := .held nilS) (zp := []) rfl (Go.WideMaps.keyOf_string_mk Try.underlying9 hs)
  rw [show Lit.string s.data.toList = keyW s from rfl, hat] at hv
  simp only [heldW, Option.some.injEq, Prod.mk.injEq, DataW.held.injEq] at hv
  rw [hv.1] at hrun
  exact hrun
theorem put_below {W : World} {g n : Nat} {d : DataW Value} (h : W.ownsMap Try.prog 9 heldW g n d) (hn : n ≤ 1000000) {s : ByteArray} (hs : s.size ≤ maxLen) (v : Value) :
    ∃ W', (Instr.mapUpdate 62 (.map (some g)) (.string s) v).run Try.prog W = .ok () W' ∧ W'.ownsMap Try.prog 9 heldW g (n + 1) (d.put (keyW s) (.held v)) ∧ W.grownBy W' (some g) :=
  World.ownsMap.update h strKeyedW Try.underlying62 (by unfold maxLen; omega) (Go.WideMaps.keyOf_string_mk Try.underlying9 hs) rfl
theorem own_shape {w : World} {B : Nat} {v : Value} {xs : List Nat} (h : w.ownsRow B 3 1 v xs.length (natC xs)) : ∃ ao cap, v = .slice ao xs.length cap := by
  rcases h.2 with ⟨rfl, h0⟩ | ⟨g, cap, cur, rfl, _⟩
  · rw [h0]; exact ⟨_, _, rfl⟩
  · exact ⟨_, _, rfl⟩
theorem kidsI_len (l : List W5) (s : ByteArray) (k : Nat) : (kidsI l s k).length ≤ k := by
  unfold kidsI
  refine Nat.le_trans (List.length_filter_le ..) ?_
  rw [List.length_range]; exact Nat.le_refl _
theorem grownDA {w w6 : World} {O : Obj} {row : Option Nat} (h : (w.alloc O).drew.grownBy w6 row) : w.grownBy w6 row :=
  grown_trans (World.grownBy_alloc w O row) ⟨h.os, h.tape, h.output, h.size, h.block⟩
def BelRel (w : World) (l : List W5) (m : Nat) (iv : Value) (wr : World) : Prop :=
  ∃ k : Nat, iv = .int .i64 k ∧ l.length - k ≤ m ∧ k ≤ l.length ∧ Below w.heap.size w wr ∧ ∃ d V, MapIn wr w.heap.size w.heap.size k d V (fun s => kidsI l s k)
section
variable (w : World)
set_option maxHeartbeats 4000000 in
set_option maxRecDepth 20000 in
theorem pbelow (l : List W5) (lv : Value) (h : WRow w l lv) (hl : l.length ≤ 1000) (hz : ∀ u ∈ l, u.name.size ≤ 1000000 ∧ u.parent.size ≤ 1000000) :
    Calls Try.prog 37 #[lv] w fun e w' => e = .returned (.map (some w.heap.size)) ∧ Below w.heap.size w w' ∧ ∃ d V, MapIn w' w.heap.size w.heap.size l.length d V (fun s => kidsI l s l.length) := by
  have H := Lib.hid h
  have HZ := Lib.hid hz
  have M0 := Lib.hid (MapIn.new w)
  have B0 := Lib.hid (below_al (Below.refl w.heap.size w) (.map #[] 0))
  obtain ⟨i0, hi0, hz0, hz1, hz2⟩ := info_partsT info_int
  obtain ⟨ao, cap, rfl, h1, h2, hat⟩ := h
  have HAT := Lib.hid hat
  clear hat h1 h2 hz
  have hmm := @run_makeMap Try.prog
  go_enter Try.func37, Try.ntmps37
  go_wp2_with fail
  go_loopg [9] l.length (fun m iv wr => BelRel w l m iv wr)
  case atStart => exact ⟨0, rfl, Nat.le_refl _, Nat.zero_le _, B0.out, _, _, M0.out⟩
  case round =>
    obtain ⟨k, rfl, hm, hk, hb, d, V, hM⟩ := hrel
    have HM := Lib.hid hm
    have BR := Lib.hid hb
    have MI := Lib.hid hM
    clear hm hb hM
    by_cases hlt : k < l.length
    · obtain ⟨u, hu⟩ : ∃ u, l[k]? = some u := ⟨_, List.getElem?_eq_getElem hlt⟩
      have HU := Lib.hid hu
      obtain ⟨g, o, rfl, hc⟩ := HAT.out k u hu
      obtain ⟨k0, k1, k2, k3, k4⟩ := hc.below BR.out
      have PS := Lib.hid (show u.parent.size ≤ maxLen by have := HZ.out u (List.mem_of_getElem? hu); unfold maxLen; omega)
      clear hu hc
      go_upto_region 1 with fail
      have BX := Lib.hid (below_al BR.out (.cells #[.string u.name, .string u.parent, .int .i64 u.lim.c, .int .i64 u.lim.m, .int .i64 u.lim.p] 39))
      have NX := Lib.hid (heap_alloc_new wr (.cells #[.string u.name, .string u.parent, .int .i64 u.lim.c, .int .i64 u.lim.m, .int .i64 u.lim.p] 39))
      have MX := Lib.hid (MI.out.alloc (.cells #[.string u.name, .string u.parent, .int .i64 u.lim.c, .int .i64 u.lim.m, .int .i64 u.lim.p] 39))
      have p1 : (wr.alloc (.cells #[.string u.name, .string u.parent, .int .i64 u.lim.c, .int .i64 u.lim.m, .int .i64 u.lim.p] 39)).cell? ⟨wr.heap.size, 1, none⟩ = some (.string u.parent) := by
        rw [cell_of_row _ _ 1 _ _ _ NX.out]; rfl
      have GE := Lib.hid BR.out.size
      have OB := Lib.hid (show ∀ q, (V u.parent).ownBlock = some q → q < wr.heap.size from fun q hq => ((MI.out.row u.parent).lt q hq).2)
      have KS := Lib.hid (show ∀ s, kidsI l s (k + 1) = if s = u.parent then kidsI l u.parent k ++ [k] else kidsI l s k from fun s => by
        rw [kidsI_step HU.out]
        by_cases e : u.parent = s
        · subst e; simp
        · rw [if_neg e, if_neg (fun h => e h.symm)])
      clear k0 k1 k2 k3 k4 MI BR NX
      generalize hbx : wr.heap.size = bx at *
      generalize wr.alloc (.cells #[.string u.name, .string u.parent, .int .i64 u.lim.c, .int .i64 u.lim.m, .int .i64 u.lim.p] 39) = wx at *
      obtain ⟨vo, vc, hV⟩ := own_shape (MX.out.row u.parent)
      have HO := Lib.hid (MX.out.row u.parent)
      have AT := Lib.hid (MX.out.at' u.parent)
      have lk0 := look_below (W := wx.drew) MX.out.map PS.out AT.out
      have lk1 := look_below (W := (wx.alloc (.cells #[.int .i64 (k : Int)] 3)).drew) (MX.out.alloc _).map PS.out AT.out
      rw [hV] at lk0 lk1 HO AT
      have a1 := hold (below_al (Below.refl wx.heap.size wx) (.cells #[.int .i64 (k : Int)] 3)) p1
      have UP := Lib.hid (show ∀ (O : Obj) (w6 : World) (v : Value), (wx.alloc O).drew.grownBy w6 (V u.parent).ownBlock → w6.cell? ⟨bx, 1, none⟩ = some (.string u.parent) ∧ ∃ w7, (Instr.mapUpdate 62 (.map (some w.heap.size)) (.string u.parent) v).run Try.prog w6 = .ok () w7 ∧ w7.ownsMap Try.prog 9 heldW w.heap.size (k + 1) (d.put (keyW u.parent) (.held v)) ∧ w6.grownBy w7 (some w.heap.size) from fun O w6 v hg => by
        have hg2 := grownDA hg
        have hlt2 := World.block_lt_of_cell? _ _ p1
        refine ⟨(World.cell?_of_block (a := ⟨bx, 1, none⟩) (hg2.block bx hlt2 fun e => ?_)).trans p1, ?_⟩
        · have := OB.out bx e.symm
          omega
        · exact put_below (World.ownsMap.kept MX.out.map hg2 (fun e => MX.out.off u.parent e.symm)) (by omega) PS.out v)
      have LL := Lib.hid (show (kidsI l u.parent k).length ≤ 1000 from Nat.le_trans (kidsI_len _ _ _) (by omega))
      go_region_law (first | (refine step_append_lies _ (by rfl) _ _ _ (by rfl) w.heap.size 3 i0 (.int .i64 0) 1 8 Try.underlying51 hi0 hz0 hz1 hz2 rfl (by decide) (.slice vo (kidsI l u.parent k).length vc) (kidsI l u.parent k).length (natC (kidsI l u.parent k)) (by rfl) (by exact (World.ownsRow.alloc HO.out _)) ⟨wx.heap.size, 0, none⟩ 1 1 [.int .i64 (k : Int)] (by rfl) (by rfl) (by exact (news_new wx #[.int .i64 (k : Int)] 3)) (by simp [Value.oneCell']) (by decide) (by have := LL.out; unfold maxLen; omega) (by have := LL.out; omega) (by have := BX.out.size; simp; omega) (wx.heap.size + 1) (by simp) ?_; intro gg cc w6 hown' hgrow hat hlt6; rw [← hV] at hgrow; obtain ⟨g1, w7, hrun, hown7, hg7⟩ := UP.out _ _ (.slice (some ⟨gg, 0, none⟩) ((kidsI l u.parent k).length + 1) cc) hgrow))
      all_goals
        have NM : Hid (BelRel w l (l.length - (k + 1)) (.int .i64 ((k + 1 : Nat) : Int)) w7) := by
          have hg6 : (wx.alloc (.cells #[.int .i64 (k : Int)] 3)).grownBy w6 (V u.parent).ownBlock := ⟨hgrow.os, hgrow.tape, hgrow.output, hgrow.size, hgrow.block⟩
          have ho2 : w6.ownsRow w.heap.size 3 1 (.slice (some ⟨gg, 0, none⟩) ((kidsI l u.parent k).length + 1) cc) (kidsI l u.parent k ++ [k]).length (natC (kidsI l u.parent k ++ [k])) := by
            rw [List.length_append, natC_app]; exact hown'
          have MP := (MX.out.alloc (.cells #[.int .i64 (k : Int)] 3)).put hg6 hown7 hg7 ho2 (by
            rcases hat with h | h
            · left; rw [hV, h]; rfl
            · right; rw [h]; simp [Value.ownBlock]) (by simp)
          rw [show (fun x => if x = u.parent then kidsI l u.parent k ++ [k] else kidsI l x k) = fun s => kidsI l s (k + 1) from funext fun s => (KS.out s).symm] at MP
          have hlow : ∀ q, (V u.parent).ownBlock = some q → w.heap.size ≤ q := fun q hq => ((MX.out.row u.parent).lt q hq).1
          exact ⟨k + 1, rfl, Nat.le_refl _, hlt, below_grown' (below_grown' BX.out (grownDA hgrow) hlow) hg7 (fun q hq => by simp at hq; omega), _, _, MP⟩
        clear hown' hgrow hat hlt6 g1 hrun hown7 hg7
        go_wp2_with fail
        go_roundg (l.length - (k + 1))
        case rel => exact NM.out
        case measure => have := HM.out; omega
    · obtain rfl : k = l.length := by omega
      have ME := Lib.hid MI.out
      go_wp2_with fail
      go_ret
      exact ⟨rfl, BR.out, d, V, ME.out⟩
end
end Go.Proofs.Ytmiadhcmhnjmfaa
